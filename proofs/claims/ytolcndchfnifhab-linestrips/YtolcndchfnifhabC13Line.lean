/- Line: part 13 of what the proofs need. -/
import Derived.Test.YtolcndchfnifhabC6Line
import Derived.Test.YtolcndchfnifhabC7Line
import Derived.Test.YtolcndchfnifhabC8Line
import Derived.Test.YtolcndchfnifhabC12Line
import Derived.Laws.CopyOwn
import Derived.ChangeSame
import Derived.OpenShut
namespace Go.Proofs.Ytolcndchfnifhab
set_option linter.unusedVariables false
structure Win (top HA HB lo hi : Nat) : Prop where
  low : top ≤ lo
  high : hi ≤ top + HA
  all : top + HA ≤ HB
  zero : lo = 0 → top = 0
def shrL (lo r : Nat) : Nat := if lo = 0 then 0 else lo + r
def shrH (HB hi r : Nat) : Nat := if hi = HB then HB else hi - r
theorem Win.shr {top HA HB lo hi : Nat} (h : Win top HA HB lo hi) (r : Nat) : Win top HA HB (shrL lo r) (shrH HB hi r) := by
  obtain ⟨h1, h2, h3, h4⟩ := h
  refine ⟨?_, ?_, h3, ?_⟩
  · unfold shrL; split <;> omega
  · unfold shrH; split <;> omega
  · unfold shrL; split <;> omega
def AgZ (W top lo hi : Nat) (za zb : List Int) : Prop := ∀ y x, lo ≤ y → y < hi → x < W → zAt za ((y - top) * W + x) = zAt zb (y * W + x)
def AgP (W top lo hi : Nat) (pa pb : List Px) : Prop := ∀ y x, lo ≤ y → y < hi → x < W → pxAt pa ((y - top) * W + x) = pxAt pb (y * W + x)
theorem ix_mod {W y x : Nat} (hx : x < W) : (y * W + x) % W = x := by rw [Nat.add_comm, Nat.add_mul_mod_self_right, Nat.mod_eq_of_lt hx]
theorem ix_div {W y x : Nat} (hx : x < W) : (y * W + x) / W = y := by
  rw [Nat.add_comm, Nat.add_mul_div_right _ _ (by omega), Nat.div_eq_of_lt hx, Nat.zero_add]
theorem ix_lt {W H y x : Nat} (hy : y < H) (hx : x < W) : y * W + x < H * W := by
  have h := Nat.mul_le_mul_right W (show y + 1 ≤ H from hy)
  rw [Nat.add_mul, Nat.one_mul] at h
  omega
theorem zAt_mapR (f : Nat → Int) {n j : Nat} (h : j < n) : zAt ((List.range n).map f) j = f j := by
  unfold zAt
  rw [List.getD_eq_getElem?_getD, List.getElem?_map, List.getElem?_range h]
  rfl
theorem pxAt_mapR (f : Nat → Px) {n j : Nat} (h : j < n) : pxAt ((List.range n).map f) j = f j := by
  unfold pxAt
  rw [List.getD_eq_getElem?_getD, List.getElem?_map, List.getElem?_range h]
  rfl
theorem pxAt_map (f : Px → Px) {ps : List Px} {j : Nat} (h : j < ps.length) : pxAt (ps.map f) j = f (pxAt ps j) := by
  unfold pxAt
  rw [List.getD_eq_getElem?_getD, List.getD_eq_getElem?_getD, List.getElem?_map, List.getElem?_eq_getElem h]
  rfl
theorem mean_congr {N : Nat} {za zb : List Int} {W HA HB : Nat} {pa qa pb qb : Fin N → Int} {ca cb : Fin N → Bool}
    (h1 : ∀ x, (hasB W HA (pa x) (qa x) = true ∧ ca x = true) ↔ (hasB W HB (pb x) (qb x) = true ∧ cb x = true))
    (h2 : ∀ x, hasB W HB (pb x) (qb x) = true → cb x = true → zAt za ((qa x).toNat * W + (pa x).toNat) = zAt zb ((qb x).toNat * W + (pb x).toNat)) :
    meanV za W HA pa qa ca = meanV zb W HB pb qb cb := by
  have hs : mStep za W HA pa qa ca = mStep zb W HB pb qb cb := by
    funext s x
    unfold mStep
    by_cases hc : hasB W HB (pb x) (qb x) = true ∧ cb x = true
    · rw [if_pos ((h1 x).2 hc), if_pos hc, h2 x hc.1 hc.2]
    · rw [if_neg (fun h => hc ((h1 x).1 h)), if_neg hc]
  unfold meanV mF
  rw [hs]
section
variable {W top HA HB lo hi : Nat}
theorem AgZ.map {za zb : List Int} {fa fb : Nat → Int} {lo' hi' : Nat} (hw : Win top HA HB lo' hi') (ha : za.length = HA * W) (hb : zb.length = HB * W)
    (h : ∀ y x, lo' ≤ y → y < hi' → x < W → fa ((y - top) * W + x) = fb (y * W + x)) : AgZ W top lo' hi' ((List.range za.length).map fa) ((List.range zb.length).map fb) := by
  intro y x h1 h2 hx
  have := hw.low; have := hw.high; have := hw.all
  rw [zAt_mapR _ (by rw [ha]; exact ix_lt (by omega) hx), zAt_mapR _ (by rw [hb]; exact ix_lt (by omega) hx)]
  exact h y x h1 h2 hx
theorem AgP.map {na nb : Nat} {fa fb : Nat → Px} {lo' hi' : Nat} (hw : Win top HA HB lo' hi') (ha : na = HA * W) (hb : nb = HB * W)
    (h : ∀ y x, lo' ≤ y → y < hi' → x < W → fa ((y - top) * W + x) = fb (y * W + x)) : AgP W top lo' hi' ((List.range na).map fa) ((List.range nb).map fb) := by
  intro y x h1 h2 hx
  have := hw.low; have := hw.high; have := hw.all
  rw [pxAt_mapR _ (by rw [ha]; exact ix_lt (by omega) hx), pxAt_mapR _ (by rw [hb]; exact ix_lt (by omega) hx)]
  exact h y x h1 h2 hx
theorem lev_local {za zb : List Int} {ma mb : Nat → Int} {white : Int} (hw : Win top HA HB lo hi) (ha : za.length = HA * W) (hb : zb.length = HB * W) (hz : AgZ W top lo hi za zb)
    (hm : ∀ y x, top ≤ y → ma ((y - top) % 2 * 2 + x % 2) = mb (y % 2 * 2 + x % 2)) : AgZ W top lo hi (levL W za ma white) (levL W zb mb white) := by
  refine AgZ.map hw ha hb fun y x h1 h2 hx => ?_
  have h3 := hz y x h1 h2 hx
  have h4 := hm y x (Nat.le_trans hw.low h1)
  simp only [levelV, Int.toNat_natCast, ix_mod hx, ix_div hx, h3, h4]
theorem gai_local {za zb : List Int} {pa pb : Int} {m : Nat → Int} (hw : Win top HA HB lo hi) (ha : za.length = HA * W) (hb : zb.length = HB * W) (hz : AgZ W top lo hi za zb)
    (hm : ∀ y x, top ≤ y → colV pa.toNat x (y - top) = colV pb.toNat x y) : AgZ W top lo hi (gaiL W za pa m) (gaiL W zb pb m) := by
  refine AgZ.map hw ha hb fun y x h1 h2 hx => ?_
  have h3 := hz y x h1 h2 hx
  have h4 := hm y x (Nat.le_trans hw.low h1)
  simp only [gainV, Int.toNat_natCast, ix_mod hx, ix_div hx, h3, h4]
theorem rows_near {y r : Nat} {d : Int} (hw : Win top HA HB lo hi) (h1 : shrL lo r ≤ y) (h2 : y < shrH HB hi r) (hd1 : -(r : Int) ≤ d) (hd2 : d ≤ r) :
    (0 ≤ ((y - top : Nat) : Int) + d ∧ ((y - top : Nat) : Int) + d < HA ↔ 0 ≤ (y : Int) + d ∧ (y : Int) + d < HB) ∧ (0 ≤ (y : Int) + d ∧ (y : Int) + d < HB → lo ≤ ((y : Int) + d).toNat ∧ ((y : Int) + d).toNat < hi ∧ (((y - top : Nat) : Int) + d).toNat = ((y : Int) + d).toNat - top) := by
  obtain ⟨h3, h4, h5, h6⟩ := hw
  have ht : top ≤ y := by
    unfold shrL at h1
    split at h1 <;> omega
  have hlo : lo = 0 ∨ lo + r ≤ y := by
    unfold shrL at h1
    split at h1
    · exact .inl ‹_›
    · exact .inr h1
  have hhi : (hi = HB ∧ y < HB) ∨ y + r < hi := by
    unfold shrH at h2
    split at h2
    · exact .inl ⟨‹_›, h2⟩
    · exact .inr (by omega)
  rcases hlo with hlo | hlo <;> rcases hhi with hhi | hhi
  · have := h6 hlo; omega
  · have := h6 hlo; omega
  · omega
  · omega
theorem rep_local {za zb : List Int} {la lb : List Pt} (hw : Win top HA HB lo hi) (ha : za.length = HA * W) (hb : zb.length = HB * W) (hz : AgZ W top lo hi za zb)
    (hm : ∀ (y : Nat) (x : Int), top ≤ y → y < top + HA → goodB la (x, ((y - top : Nat) : Int)) = goodB lb (x, (y : Int))) : AgZ W top (shrL lo 2) (shrH HB hi 2) (repL W HA za la) (repL W HB zb lb) := by
  refine AgZ.map (hw.shr 2) ha hb fun y x h1 h2 hx => ?_
  have hw2 := hw.shr 2
  have hty : top ≤ y := Nat.le_trans hw2.low h1
  have hyt : y < top + HA := Nat.lt_of_lt_of_le h2 hw2.high
  have h3 := hz y x (by unfold shrL at h1; split at h1 <;> omega) (by have := hw.high; have := hw.all; unfold shrH at h2; split at h2 <;> omega) hx
  have h4 := hm y x hty hyt
  simp only [repV, Int.toNat_natCast, ix_mod hx, ix_div hx, h3, h4]
  refine congrArg (fun u => if goodB lb ((x : Int), (y : Int)) = true then zAt zb (y * W + x) else u) ?_
  have key : ∀ k : Fin 4, (0 ≤ crY (y - top) k ∧ crY (y - top) k < HA ↔ 0 ≤ crY y k ∧ crY y k < HB) ∧ (0 ≤ crY y k ∧ crY y k < HB → lo ≤ (crY y k).toNat ∧ (crY y k).toNat < hi ∧ (crY (y - top) k).toNat = (crY y k).toNat - top) := fun k =>
    rows_near (d := crDy k.1) hw h1 h2 (by unfold crDy; (repeat' split) <;> omega) (by unfold crDy; (repeat' split) <;> omega)
  refine mean_congr (fun k => ?_) (fun k hk hc => ?_)
  · obtain ⟨k1, k2⟩ := key k
    have hh : hasB W HA (crX x k) (crY (y - top) k) = true ↔ hasB W HB (crX x k) (crY y k) = true := by
      simp only [hasB, decide_eq_true_eq]
      constructor
      · intro h; have := k1.1 ⟨h.2.2.1, h.2.2.2⟩; exact ⟨h.1, h.2.1, this.1, this.2⟩
      · intro h; have := k1.2 ⟨h.2.2.1, h.2.2.2⟩; exact ⟨h.1, h.2.1, this.1, this.2⟩
    have hcc : hasB W HB (crX x k) (crY y k) = true → repC la x (y - top) k = repC lb x y k := fun h => by
      simp only [hasB, decide_eq_true_eq] at h
      have k3 := k2 ⟨h.2.2.1, h.2.2.2⟩
      have hA := k1.2 ⟨h.2.2.1, h.2.2.2⟩
      have := hm (crY y k).toNat (crX x k) (by have := hw.low; omega) (by have := hw.high; omega)
      rw [← k3.2.2, Int.toNat_of_nonneg hA.1, Int.toNat_of_nonneg h.2.2.1] at this
      exact this
    constructor
    · intro h; have h1 := hh.1 h.1; exact ⟨h1, by rw [← hcc h1]; exact h.2⟩
    · intro h; exact ⟨hh.2 h.1, by rw [hcc h.1]; exact h.2⟩
  · simp only [hasB, decide_eq_true_eq] at hk
    have k3 := (key k).2 ⟨hk.2.2.1, hk.2.2.2⟩
    rw [k3.2.2]
    exact hz _ _ k3.1 k3.2.1 (by omega)
theorem nOf_div {k : Nat} (h : k < 8) : nOf k / 3 ≤ 2 := by unfold nOf; split <;> omega
theorem fill_local {za zb : List Int} {pa pb : Int} (hw : Win top HA HB lo hi) (ha : za.length = HA * W) (hb : zb.length = HB * W) (hz : AgZ W top lo hi za zb)
    (hm : ∀ y x, top ≤ y → colV pa.toNat x (y - top) = colV pb.toNat x y) : AgP W top (shrL lo 1) (shrH HB hi 1) (fillL W HA za pa) (fillL W HB zb pb) := by
  refine AgP.map (hw.shr 1) ha hb fun y x h1 h2 hx => ?_
  have hw2 := hw.shr 1
  have hty : top ≤ y := Nat.le_trans hw2.low h1
  have h3 := hz y x (by unfold shrL at h1; split at h1 <;> omega) (by have := hw.high; have := hw.all; unfold shrH at h2; split at h2 <;> omega) hx
  have h4 := hm y x hty
  have key : ∀ k : Fin 8, (0 ≤ parY (y - top) k ∧ parY (y - top) k < HA ↔ 0 ≤ parY y k ∧ parY y k < HB) ∧ (0 ≤ parY y k ∧ parY y k < HB → lo ≤ (parY y k).toNat ∧ (parY y k).toNat < hi ∧ (parY (y - top) k).toNat = (parY y k).toNat - top) := fun k => by
    have h := rows_near (d := -1 + (nOf k.1 / 3 : Nat)) hw h1 h2 (by omega) (by have := nOf_div k.2; omega)
    have e1 : parY (y - top) k = ((y - top : Nat) : Int) + (-1 + (nOf k.1 / 3 : Nat)) := by unfold parY; omega
    have e2 : parY y k = (y : Int) + (-1 + (nOf k.1 / 3 : Nat)) := by unfold parY; omega
    rw [e1, e2]
    exact h
  have part : ∀ c, partV za W HA pa.toNat x (y - top) c = partV zb W HB pb.toNat x y c := fun c => by
    unfold partV
    rw [h3, h4]
    refine congrArg (fun u => if colV pb.toNat x y = c then zAt zb (y * W + x) else u) ?_
    refine mean_congr (fun k => ?_) (fun k hk hc => ?_)
    · obtain ⟨k1, k2⟩ := key k
      have hh : hasB W HA (parX x k) (parY (y - top) k) = true ↔ hasB W HB (parX x k) (parY y k) = true := by
        simp only [hasB, decide_eq_true_eq]
        constructor
        · intro h; have := k1.1 ⟨h.2.2.1, h.2.2.2⟩; exact ⟨h.1, h.2.1, this.1, this.2⟩
        · intro h; have := k1.2 ⟨h.2.2.1, h.2.2.2⟩; exact ⟨h.1, h.2.1, this.1, this.2⟩
      have hcc : hasB W HB (parX x k) (parY y k) = true → parC pa.toNat x (y - top) c k = parC pb.toNat x y c k := fun h => by
        simp only [hasB, decide_eq_true_eq] at h
        have k3 := k2 ⟨h.2.2.1, h.2.2.2⟩
        have := hm (parY y k).toNat (parX x k).toNat (by have := hw.low; omega)
        unfold parC
        rw [k3.2.2, this]
      constructor
      · intro h; have h1 := hh.1 h.1; exact ⟨h1, by rw [← hcc h1]; exact h.2⟩
      · intro h; exact ⟨hh.2 h.1, by rw [hcc h.1]; exact h.2⟩
    · simp only [hasB, decide_eq_true_eq] at hk
      have k3 := (key k).2 ⟨hk.2.2.1, hk.2.2.2⟩
      rw [k3.2.2]
      exact hz _ _ k3.1 k3.2.1 (by omega)
  simp only [fillP, Int.toNat_natCast, ix_mod hx, ix_div hx, part]
theorem each_local {pa pb : List Px} {f : Px → Px} (hw : Win top HA HB lo hi) (ha : pa.length = HA * W) (hb : pb.length = HB * W) (hz : AgP W top lo hi pa pb) : AgP W top lo hi (pa.map f) (pb.map f) := by
  intro y x h1 h2 hx
  have := hw.low; have := hw.high; have := hw.all
  rw [pxAt_map _ (by rw [ha]; exact ix_lt (by omega) hx), pxAt_map _ (by rw [hb]; exact ix_lt (by omega) hx), hz y x h1 h2 hx]
theorem near_lt {W : Nat} {x : Int} (h : 1 ≤ W) : (near W x).toNat < W := by unfold near; (repeat' split) <;> omega
theorem sharp_local {pa pb : List Px} {amount : Int} (hw : Win top HA HB lo hi) (ha : pa.length = HA * W) (hb : pb.length = HB * W) (hz : AgP W top lo hi pa pb) :
    AgP W top (shrL lo 1) (shrH HB hi 1) (sharpL W HA pa amount) (sharpL W HB pb amount) := by
  refine AgP.map (hw.shr 1) ha hb fun y x h1 h2 hx => ?_
  have hw2 := hw.shr 1
  have hty : top ≤ y := Nat.le_trans hw2.low h1
  have h3 := hz y x (by unfold shrL at h1; split at h1 <;> omega) (by have := hw.high; have := hw.all; unfold shrH at h2; split at h2 <;> omega) hx
  have key : ∀ k : Fin 8, pxAt pa (wIx W HA x (y - top) k.1) = pxAt pb (wIx W HB x y k.1) := fun k => by
    unfold wIx
    have hk := nOf_div k.2
    generalize nOf k.1 / 3 = q at hk
    have hx2 := near_lt (x := (x : Int) - 1 + (nOf k.1 % 3 : Nat)) (show 1 ≤ W by omega)
    generalize (near W ((x : Int) - 1 + (nOf k.1 % 3 : Nat))).toNat = xx at hx2
    have hyB : ∃ yy : Nat, (near HB ((y : Int) - 1 + (q : Nat))).toNat = yy ∧ (near HA (((y - top : Nat) : Int) - 1 + (q : Nat))).toNat = yy - top ∧ lo ≤ yy ∧ yy < hi := by
      refine ⟨_, rfl, ?_⟩
      obtain ⟨h5, h6, h7, h8⟩ := hw
      have hlo : (lo = 0 ∧ top = 0) ∨ (lo + 1 ≤ y ∧ 0 < lo) := by
        unfold shrL at h1
        split at h1
        · exact .inl ⟨‹_›, h8 ‹_›⟩
        · exact .inr ⟨h1, by omega⟩
      have hhi : (hi = HB ∧ y < HB ∧ top + HA = HB) ∨ (y + 1 < hi ∧ hi < HB) ∨ (y + 1 < hi ∧ hi = HB) := by
        unfold shrH at h2
        split at h2
        · exact .inl ⟨‹_›, h2, by omega⟩
        · exact .inr (.inl ⟨by omega, by omega⟩)
      unfold near
      rcases hlo with hlo | hlo <;> rcases hhi with hhi | hhi | hhi <;> (repeat' split) <;> omega
    obtain ⟨yy, e1, e2, e3, e4⟩ := hyB
    rw [e1, e2]
    exact hz yy xx e3 e4 hx2
  have hF : wF pa W HA x (y - top) (List.finRange 8) = wF pb W HB x y (List.finRange 8) := by
    unfold wF
    rw [h3]
    refine congrArg (fun g => (List.finRange 8).foldl g (addP (0, 0, 0) 4 (pxAt pb (y * W + x)))) ?_
    funext s k
    rw [key k]
  simp only [sharpP, Int.toNat_natCast, ix_mod hx, ix_div hx, hF, h3]
end
structure Seen (top HA : Nat) (na nb : Plan) : Prop where
  black : ∀ y x, top ≤ y → na.black ((y - top) % 2 * 2 + x % 2) = nb.black (y % 2 * 2 + x % 2)
  phase : ∀ y x, top ≤ y → colV na.phase.toNat x (y - top) = colV nb.phase.toNat x y
  spots : ∀ (y : Nat) (x : Int), top ≤ y → y < top + HA → goodB na.spots (x, ((y - top : Nat) : Int)) = goodB nb.spots (x, (y : Int))
  white : na.white = nb.white
  gains : na.gains = nb.gains
  matrix : na.matrix = nb.matrix
  curve : na.curve = nb.curve
  amount : na.amount = nb.amount
theorem moved_good (ls : List Pt) (top rows y : Nat) (x : Int) (h1 : top ≤ y) (h2 : y < top + rows) : goodB (movedSpots ls top rows) (x, ((y - top : Nat) : Int)) = goodB ls (x, (y : Int)) := by
  have hiff : (x, ((y - top : Nat) : Int)) ∈ movedSpots ls top rows ↔ (x, (y : Int)) ∈ ls := by
    unfold movedSpots
    rw [List.mem_map]
    constructor
    · rintro ⟨s, hs, he⟩
      obtain ⟨hm, hr⟩ := List.mem_filter.1 hs
      obtain ⟨s1, s2⟩ := s
      simp only [Prod.mk.injEq, inRows, decide_eq_true_eq] at he hr
      have e : s2 = (y : Int) := by omega
      rw [← he.1, ← e]
      exact hm
    · intro h
      refine ⟨(x, (y : Int)), List.mem_filter.2 ⟨h, ?_⟩, ?_⟩
      · simp only [inRows, decide_eq_true_eq]; omega
      · simp only [Prod.mk.injEq, true_and]; omega
  unfold goodB
  rw [decide_eq_decide, List.count_eq_zero, List.count_eq_zero, hiff]
theorem col_moved (p : Int) (hp : phaseOk p = true) (top x y : Nat) (h1 : top ≤ y) : colV (if top % 2 = 1 then oddPhase p else p).toNat x (y - top) = colV p.toNat x y := by
  have h2 : 0 ≤ p ∧ p ≤ 3 := by simpa [phaseOk] using hp
  have hB : colB (if top % 2 = 1 then oddPhase p else p).toNat x (y - top) = colB p.toNat x y := by
    unfold colB
    refine Prod.ext ?_ ?_ <;> refine decide_eq_decide.2 ?_ <;> unfold oddPhase <;> split <;> (try split) <;> omega
  unfold colV
  rw [hB]
theorem seen_moved (n : Plan) (hp : phaseOk n.phase = true) (top HA : Nat) : Seen top HA (movedP n top HA) n := by
  refine ⟨fun y x h => ?_, fun y x h => col_moved _ hp _ _ _ h, fun y x h1 h2 => moved_good _ _ _ _ _ h1 h2, rfl, rfl, rfl, rfl, rfl⟩
  show (if top % 2 = 1 then oddBlack n.black else n.black) _ = _
  split
  · unfold oddBlack
    exact congrArg n.black (by omega)
  · exact congrArg n.black (by omega)
theorem dev_local {na nb : Plan} {W top HA HB lo hi : Nat} {za zb : List Int} (hn : Seen top HA na nb) (hw : Win top HA HB lo hi) (ha : za.length = HA * W) (hb : zb.length = HB * W) (hz : AgZ W top lo hi za zb) :
    AgP W top (shrL lo 4) (shrH HB hi 4) (dev7 na W HA za) (dev7 nb W HB zb) := by
  have g1 : AgZ W top lo hi (dev1 na W za) (dev1 nb W zb) := by
    unfold dev1; rw [hn.white]; exact lev_local hw ha hb hz hn.black
  have g2 : AgZ W top (shrL lo 2) (shrH HB hi 2) (dev2 na W HA za) (dev2 nb W HB zb) :=
    rep_local hw (by rw [dev1_length, ha]) (by rw [dev1_length, hb]) g1 hn.spots
  have g3 : AgZ W top (shrL lo 2) (shrH HB hi 2) (dev3 na W HA za) (dev3 nb W HB zb) := by
    unfold dev3; rw [hn.gains]; exact gai_local (hw.shr 2) (by rw [dev2_length, ha]) (by rw [dev2_length, hb]) g2 hn.phase
  have g4 := fill_local (hw.shr 2) (by rw [dev3_length, ha]) (by rw [dev3_length, hb]) g3 hn.phase
  have g5 : AgP W top (shrL (shrL lo 2) 1) (shrH HB (shrH HB hi 2) 1) (dev5 na W HA za) (dev5 nb W HB zb) := by
    unfold dev5; rw [hn.matrix]; exact each_local ((hw.shr 2).shr 1) (by rw [dev4_length, ha]) (by rw [dev4_length, hb]) g4
  have g6 : AgP W top (shrL (shrL lo 2) 1) (shrH HB (shrH HB hi 2) 1) (dev6 na W HA za) (dev6 nb W HB zb) := by
    unfold dev6; rw [hn.curve]; exact each_local ((hw.shr 2).shr 1) (by rw [dev5_length, ha]) (by rw [dev5_length, hb]) g5
  have g7 : AgP W top (shrL (shrL (shrL lo 2) 1) 1) (shrH HB (shrH HB (shrH HB hi 2) 1) 1) (dev7 na W HA za) (dev7 nb W HB zb) := by
    unfold dev7; rw [hn.amount]; exact sharp_local ((hw.shr 2).shr 1) (by rw [dev6_length, ha]) (by rw [dev6_length, hb]) g6
  intro y x h1 h2 hx
  refine g7 y x ?_ ?_ hx
  · unfold shrL at h1 ⊢
    split at h1 <;> (repeat' split) <;> omega
  · unfold shrH at h2 ⊢
    split at h2 <;> (repeat' split) <;> omega
theorem rows_ext {W top fm m : Nat} {pa pb : List Px} (ht : top ≤ fm) (ha : (fm - top + m) * W ≤ pa.length) (hb : (fm + m) * W ≤ pb.length) (h : AgP W top fm (fm + m) pa pb) : rowsL pa W (fm - top) m = rowsL pb W fm m := by
  have l1 : (rowsL pa W (fm - top) m).length = m * W := by
    unfold rowsL; rw [List.length_take, List.length_drop]; rw [Nat.add_mul] at ha; omega
  have l2 : (rowsL pb W fm m).length = m * W := by
    unfold rowsL; rw [List.length_take, List.length_drop]; rw [Nat.add_mul] at hb; omega
  refine List.ext_getElem? fun j => ?_
  by_cases j1 : j < m * W
  · have hW : 0 < W := by
      rcases Nat.eq_zero_or_pos W with h0 | h0
      · rw [h0] at j1; omega
      · exact h0
    obtain ⟨q, r, hq, hr, hj⟩ : ∃ q r, q < m ∧ r < W ∧ j = q * W + r :=
      ⟨j / W, j % W, Nat.div_lt_of_lt_mul (by rw [Nat.mul_comm]; exact j1), Nat.mod_lt _ hW, by rw [Nat.mul_comm]; exact (Nat.div_add_mod j W).symm⟩
    have h3 := h (fm + q) r (by omega) (by omega) hr
    have i1 : (fm + q - top) * W + r = (fm - top) * W + j := by
      rw [show fm + q - top = (fm - top) + q by omega, Nat.add_mul, Nat.add_assoc, ← hj]
    have i2 : (fm + q) * W + r = fm * W + j := by rw [Nat.add_mul, Nat.add_assoc, ← hj]
    rw [i1, i2] at h3
    rw [Nat.add_mul] at ha hb
    unfold pxAt at h3
    rw [List.getD_eq_getElem?_getD, List.getD_eq_getElem?_getD, List.getElem?_eq_getElem (by omega), List.getElem?_eq_getElem (by omega)] at h3
    simp only [Option.getD_some] at h3
    unfold rowsL
    rw [List.getElem?_take_of_lt j1, List.getElem?_take_of_lt j1, List.getElem?_drop, List.getElem?_drop, List.getElem?_eq_getElem (by omega), List.getElem?_eq_getElem (by omega), h3]
  · rw [List.getElem?_eq_none (by rw [l1]; omega), List.getElem?_eq_none (by rw [l2]; omega)]
theorem part_whole {n : Plan} {W top H HB fm tm : Nat} {za zb : List Int} (hp : phaseOk n.phase = true) (ha : za.length = H * W) (hb : zb.length = HB * W) (h1 : top + H ≤ HB) (hft : fm < tm) (hto : tm ≤ HB) (hlo : top = 0 ∨ top + 4 ≤ fm) (hhi : top + H = HB ∨ tm + 4 ≤ top + H)
    (hz : AgZ W top top (top + H) za zb) : rowsL (dev7 (movedP n top H) W H za) W (fm - top) (tm - fm) = rowsL (dev7 n W HB zb) W fm (tm - fm) := by
  have hw : Win top H HB top (top + H) := ⟨Nat.le_refl _, Nat.le_refl _, h1, id⟩
  have g := dev_local (seen_moved n hp top H) hw ha hb hz
  refine rows_ext (by omega) ?_ ?_ ?_
  · rw [dev7_length, ha]; exact Nat.mul_le_mul_right _ (by omega)
  · rw [dev7_length, hb]; exact Nat.mul_le_mul_right _ (by omega)
  · intro y x y1 y2 hx
    refine g y x ?_ ?_ hx
    · unfold shrL; split <;> omega
    · unfold shrH; split <;> omega
end Go.Proofs.Ytolcndchfnifhab

namespace Go.Proofs.Ytolcndchfnifhab
set_option linter.unusedVariables false
theorem agz_rows (zs : List Int) (W top H HB : Nat) (hl : zs.length = HB * W) (h : top + H ≤ HB) : AgZ W top top (top + H) (rowsL zs W top H) zs := by
  intro y x h1 h2 hx
  have i1 := ix_lt (show y - top < H by omega) hx
  have i2 := ix_lt (show y < HB by omega) hx
  unfold zAt rowsL
  rw [List.getD_eq_getElem?_getD, List.getD_eq_getElem?_getD, List.getElem?_take_of_lt i1, List.getElem?_drop]
  have e : top * W + ((y - top) * W + x) = y * W + x := by
    rw [← Nat.add_assoc, ← Nat.add_mul, show top + (y - top) = y by omega]
  rw [e]
theorem rowsL_join {α : Type} (L : List α) (W f t H : Nat) (h1 : f ≤ t) (h2 : t ≤ H) : rowsL L W f (t - f) ++ rowsL L W t (H - t) = rowsL L W f (H - f) := by
  unfold rowsL
  have e1 : t * W = f * W + (t - f) * W := by rw [← Nat.add_mul, show f + (t - f) = t by omega]
  have e2 : (H - f) * W = (t - f) * W + (H - t) * W := by rw [← Nat.add_mul, show t - f + (H - t) = H - f by omega]
  rw [e1, e2, List.take_add, List.drop_drop]
theorem rowsL_all {α : Type} {L : List α} {W H : Nat} (h : L.length = H * W) : rowsL L W 0 (H - 0) = L := by
  unfold rowsL
  rw [Nat.zero_mul, List.drop_zero, Nat.sub_zero, ← h, List.take_length]
theorem strip_whole {n : Plan} {W H : Nat} {zs : List Int} {rows f : Nat} (hE : fitsE n W H zs H = 0) (hr : 1 ≤ rows) (hf : f < H) :
    stripP n W H zs rows f = rowsL (dev7 n W H zs) W f (stripTo H rows f - f) := by
  obtain ⟨h1, h2, h3⟩ := fitsE_zero hE
  obtain ⟨hW, hH, hl, _⟩ := planeOk_parts h2
  have hlz : zs.length = H * W := by rw [Nat.mul_comm]; exact_mod_cast hl
  have hgt := stripTo_gt (H := H) hr hf
  have hle := stripTo_le (rows := rows) hf
  unfold stripP partL
  generalize stripTo H rows f = t at *
  have hA : needA f ≤ f := by unfold needA; omega
  have hB1 : t ≤ needB t H := by unfold needB; omega
  have hB2 : needB t H ≤ H := by unfold needB; omega
  have hA2 : needA f = 0 ∨ needA f + 4 ≤ f := by unfold needA; omega
  have hB3 : needB t H = H ∨ t + 4 ≤ needB t H := by unfold needB; omega
  generalize needA f = A at *
  generalize needB t H = B at *
  have e1 : ((A : Int)).toNat = A := Int.toNat_natCast A
  have e2 : (((B - A : Nat) : Int)).toNat = B - A := Int.toNat_natCast _
  have e3 : ((W : Int)).toNat = W := Int.toNat_natCast W
  have e4 : ((f : Int) - (A : Int)).toNat = f - A := by omega
  have e5 : ((t : Int) - (f : Int)).toNat = t - f := by omega
  rw [e1, e2, e3, e4, e5]
  refine part_whole (planE_zero h1).1 ?_ hlz (by omega) hgt hle hA2 (by omega) (agz_rows zs W A (B - A) H hlz (by omega))
  refine rowsL_length zs W _ _ ?_
  rw [hlz]; exact Nat.mul_le_mul_right _ (by omega)
theorem stripsF_whole {n : Plan} {W H : Nat} {zs : List Int} {rows : Nat} (hE : fitsE n W H zs H = 0) (hr : 1 ≤ rows) : ∀ fuel f, f ≤ H → H - f ≤ fuel → stripsF n W H zs rows fuel f = rowsL (dev7 n W H zs) W f (H - f) := by
  intro fuel
  induction fuel with
  | zero =>
    intro f h1 h2
    rw [show H - f = 0 by omega]
    simp [stripsF, rowsL]
  | succ k ih =>
    intro f h1 h2
    rw [stripsF]
    by_cases hf : f < H
    · have hgt := stripTo_gt (H := H) hr hf
      have hle := stripTo_le (rows := rows) hf
      rw [if_pos hf, strip_whole hE hr hf, ih _ hle (by omega), rowsL_join _ _ _ _ _ (by omega) hle]
    · rw [if_neg hf, show H - f = 0 by omega]
      simp [rowsL]
theorem strips_whole {n : Plan} {W H : Int} {zs : List Int} {rows : Int} (hE : fitsE n W H zs H = 0) (hr : 1 ≤ rows) : stripsL n W H zs rows = dev7 n W H zs := by
  obtain ⟨h1, h2, h3⟩ := fitsE_zero hE
  obtain ⟨hW, hH, hl, _⟩ := planeOk_parts h2
  obtain ⟨WN, rfl⟩ := Int.eq_ofNat_of_zero_le (show 0 ≤ W by omega)
  obtain ⟨HN, rfl⟩ := Int.eq_ofNat_of_zero_le (show 0 ≤ H by omega)
  have hlz : zs.length = HN * WN := by rw [Nat.mul_comm]; exact_mod_cast hl
  unfold stripsL
  rw [Int.toNat_natCast, Int.toNat_natCast, stripsF_whole hE (by omega) HN 0 (Nat.zero_le _) (by omega)]
  exact rowsL_all (by rw [dev7_length, hlz])
def allL (W top H height : Nat) (zs : List Int) : List Int := List.replicate (top * W) 0 ++ zs ++ List.replicate ((height - top - H) * W) 0
theorem allL_length {W top H height : Nat} {zs : List Int} (hl : zs.length = H * W) (h : top + H ≤ height) : (allL W top H height zs).length = height * W := by
  unfold allL
  rw [List.length_append, List.length_append, List.length_replicate, List.length_replicate, hl, ← Nat.add_mul, ← Nat.add_mul, show top + H + (height - top - H) = height by omega]
theorem agz_all (W top H height : Nat) (zs : List Int) (hl : zs.length = H * W) : AgZ W top top (top + H) zs (allL W top H height zs) := by
  intro y x h1 h2 hx
  have i1 := ix_lt (show y - top < H by omega) hx
  unfold zAt allL
  rw [List.getD_eq_getElem?_getD, List.getD_eq_getElem?_getD]
  have e : y * W + x = top * W + ((y - top) * W + x) := by
    rw [← Nat.add_assoc, ← Nat.add_mul, show top + (y - top) = y by omega]
  rw [e, List.getElem?_append_left (by rw [List.length_append, List.length_replicate, hl]; omega), List.getElem?_append_right (by rw [List.length_replicate]; omega), List.length_replicate, Nat.add_sub_cancel_left]
theorem part_all {n : Plan} {W H : Int} {zs : List Int} {top height fm tm : Int} (h : partE n W H zs top height fm tm = 0) :
    partL n W H zs top fm tm = rowsL (dev7 n W height (allL W.toNat top.toNat H.toNat height.toNat zs)) W.toNat fm.toNat (tm - fm).toNat := by
  unfold partE at h
  split at h
  · rename_i hE
    split at h
    · rename_i hk
      obtain ⟨h1, h2, h3⟩ := fitsE_zero hE
      obtain ⟨hW, hH, hl, _⟩ := planeOk_parts h2
      have hk2 : (1 ≤ height ∧ height ≤ 64) ∧ (0 ≤ top ∧ top ≤ height) ∧ (0 ≤ fm ∧ fm ≤ height) ∧ (0 ≤ tm ∧ tm ≤ height) ∧ fm < tm ∧ top + H ≤ height ∧ top ≤ max 0 (fm - 4) ∧ min height (tm + 4) ≤ top + H := by simpa [partOk] using hk
      obtain ⟨k1, k2, k3, k4, k5, k6, k7, k8⟩ := hk2
      obtain ⟨WN, rfl⟩ := Int.eq_ofNat_of_zero_le (show 0 ≤ W by omega)
      obtain ⟨HN, rfl⟩ := Int.eq_ofNat_of_zero_le (show 0 ≤ H by omega)
      obtain ⟨BN, rfl⟩ := Int.eq_ofNat_of_zero_le (show 0 ≤ height by omega)
      obtain ⟨TN, rfl⟩ := Int.eq_ofNat_of_zero_le (show 0 ≤ top by omega)
      obtain ⟨FN, rfl⟩ := Int.eq_ofNat_of_zero_le (show 0 ≤ fm by omega)
      obtain ⟨EN, rfl⟩ := Int.eq_ofNat_of_zero_le (show 0 ≤ tm by omega)
      have hlz : zs.length = HN * WN := by rw [Nat.mul_comm]; exact_mod_cast hl
      unfold partL
      simp only [Int.toNat_natCast]
      have e4 : ((FN : Int) - (TN : Int)).toNat = FN - TN := by omega
      have e5 : ((EN : Int) - (FN : Int)).toNat = EN - FN := by omega
      rw [e4, e5]
      exact part_whole (planE_zero h1).1 hlz (allL_length hlz (by omega)) (by omega) (by omega) (by omega) (by omega) (by omega) (agz_all WN TN HN BN zs hlz)
    · cases h
  · exact absurd h ‹_›
end Go.Proofs.Ytolcndchfnifhab

namespace Go.Proofs.Ytolcndchfnifhab
set_option linter.unusedVariables false
open Go.RowKit
theorem pix_sub {w : World} {b off ca : Nat} {ps : List Px} (h : IsPix w (.slice (some ⟨b, off, none⟩) ps.length ca) ps) (A M : Nat) (hA : A + M ≤ ps.length) (h1 : 1 ≤ M) : IsPix w (.slice (some ⟨b, off + A * 3, none⟩) M (ca - A)) ((ps.drop A).take M) := by
  obtain ⟨x, c, hx, hl, hc⟩ := h
  cases hx
  rcases hc with hc | ⟨b', o', he, hb, hc⟩
  · rw [hc] at hA; simp at hA; omega
  · cases he
    have hlen : ((ps.drop A).take M).length = M := by rw [List.length_take, List.length_drop]; omega
    refine ⟨_, _, by rw [hlen], by rw [hlen]; omega, .inr ⟨b, off + A * 3, rfl, hb, fun j hj => ?_⟩⟩
    rw [hlen] at hj
    have h3 := hc (A + j) (by omega)
    rw [show off + A * 3 + j * 3 = off + (A + j) * 3 by omega, List.getElem_take, List.getElem_drop]
    exact h3
open Go.RowKit in
theorem step_copy_else {P : Program} {ops : Array Oper} {o : Oper} {a : Act} {w : World} {K : Act → World → Prop} {Q : Exit → Act → World → Prop} {E : Prop} (hgd : o.guard = none) (d s : Operand) (dT sT : TypeId)
    (ho : o.op = .call { callee := .builtin .copy, args := #[d, s], argTypes := #[dT, sT] }) (elem : TypeId) (hu : P.underlying dT = some (.slice elem)) (hsz : (P.info? elem).map (·.size) = some 1)
    (ad : Addr) (dLen dCap sLen sCap : Nat) (g off : Nat) (hd : a.eval d = .slice (some ⟨g, off, none⟩) dLen dCap) (hs : a.eval s = .slice (some ad) sLen sCap)
    (cur : List Value) (t : TypeId) (hg : w.heap[g]? = some (.cells cur.toArray t (0, 0))) (cs : List Value) (hn : cs.length = Nat.min sLen dLen)
    (hsrc : ∀ j v, cs[j]? = some v → w.cell? (ad.add j) = some v) (hfit : off + cs.length ≤ cur.length) (h1 : ∀ v ∈ cs, v.oneCell' = true) (B : Nat) (w0 : World) (hb : RowKit.Below B w0 w) (hBg : B ≤ g)
    (h : ∀ w', RowKit.Hid (w'.heap[g]? = some (.cells (splice cur off cs).toArray t (0, 0))) → (∀ k, k ≠ g → w'.heap[k]? = w.heap[k]?) → RowKit.Below B w0 w' → K (a.put o.dst (goInt cs.length)) w') :
    if Region.wanted o (yielded ops a.tmps) = true then Oper.wp P o a w K Q else E := by
  have hw : Region.wanted o (yielded ops a.tmps) = true := by simp [Region.wanted, hgd]
  rw [if_pos hw]
  have hrun := run_copy_row (P := P) w dT sT o.type elem g off dLen dCap ad sLen sCap cur.toArray t cs hu hsz hg hn hsrc (by simpa using hfit) h1
  unfold Oper.wp
  simp [execOp, ho, resolve, invoke, builtin, hd, hs, hrun, Result.andThen]
  exact h _ (show _ = _ by simpa [splice] using setRow_heap w g _ _ t _ hg) (fun k hk => setRow_other w g k _ hk) (below_setRow hb hBg _)
theorem made_zero (N : Nat) : madeCells #[Value.int .i64 0] N = (List.replicate N (Value.int .i64 0)).toArray := by
  refine Array.ext (by simp [madeCells]) fun i h1 h2 => ?_
  simp [madeCells, Nat.mod_one]
theorem splice_all (W top H height : Nat) (zs : List Int) (hl : zs.length = H * W) (hh : top + H ≤ height) :
    splice (List.replicate (height * W) (Value.int .i64 0)) (top * W) (zs.map (Value.int .i64)) = (allL W top H height zs).map (Value.int .i64) := by
  unfold splice allL
  have e : height * W = top * W + (zs.length + (height - top - H) * W) := by
    rw [hl, ← Nat.add_mul, ← Nat.add_mul]; congr 1; omega
  rw [List.length_map, e, List.take_replicate, List.drop_replicate, List.map_append, List.map_append, List.map_replicate, List.map_replicate, List.append_assoc]
  congr 2
  · omega
  · congr 1; omega
theorem ints_block {w : World} {b : Nat} {t : TypeId} {xs : List Int} (h : w.heap[b]? = some (.cells (xs.map (Value.int .i64)).toArray t (0, 0))) (hl : xs.length ≤ 4096) : IsInts w (.slice (some ⟨b, 0, none⟩) xs.length xs.length) xs := by
  refine ⟨_, _, rfl, by omega, .inr ⟨b, 0, rfl, (Array.getElem?_eq_some_iff.1 h).1, fun j hj => ?_⟩⟩
  rw [Lib.cell_of_heap h]
  simp [hj]
theorem allL_ok {W H height : Int} {WN HN BN TN : Nat} {zs : List Int} (eW : W = WN) (eH : H = HN) (eB : height = BN) (hp : planeOk W H zs = true) (hB : 1 ≤ height ∧ height ≤ 64) (hT : TN + HN ≤ BN) : planeOk W height (allL WN TN HN BN zs) = true := by
  obtain ⟨hW, hH, hl, _⟩ := planeOk_parts hp
  subst eW eH eB
  have hlz : zs.length = HN * WN := by rw [Nat.mul_comm]; exact_mod_cast hl
  rw [planeOk_eq, Bool.and_eq_true]
  refine ⟨?_, allIn_of fun x hx => ?_⟩
  · simp only [sizeOk, sideOk, Bool.and_eq_true, decide_eq_true_eq]
    refine ⟨⟨hW, hB⟩, ?_⟩
    rw [allL_length hlz hT, Int.natCast_mul, Int.mul_comm]
  · unfold allL at hx
    rcases List.mem_append.1 hx with hx | hx
    · rcases List.mem_append.1 hx with hx | hx
      · rw [List.eq_of_mem_replicate hx]; omega
      · have := List.all_eq_true.1 (planeOk_all hp) x hx
        exact of_decide_eq_true this
    · rw [List.eq_of_mem_replicate hx]; omega
set_option maxRecDepth 100000 in
set_option maxHeartbeats 16000000 in
theorem partOf_any (n : Plan) (sv cv : Value) (W H : Int) (v : Value) (zs : List Int) (top height fm tm : Int) (w : World) (hp : IsPlan w n sv cv) (hv : IsInts w v zs) (hk : partE n W H zs top height fm tm = 0) :
    Calls Try.prog 50 #[.agg (planA n sv cv), .agg #[.int .i64 W, .int .i64 H, v], .int .i64 top, .int .i64 height, .int .i64 fm, .int .i64 tm] w fun e w' => ∃ r, e = .returned (.agg #[.int .i64 W, .int .i64 (tm - fm), r]) ∧ IsPix w' r (partL n W H zs top fm tm) ∧ Below w.heap.size w w' ∧ Fresh w.heap.size r := by
  have HP := hide hp
  have HV := hide hv
  have HPT := hide (part_all hk)
  have hke : fitsE n W H zs height = 0 ∧ partOk H top height fm tm = true := by
    unfold partE at hk
    split at hk
    · rename_i h1
      split at hk
      · rename_i h2; exact ⟨h1, h2⟩
      · cases hk
    · exact absurd hk ‹_›
  obtain ⟨hE, hok⟩ := hke
  clear hk
  obtain ⟨h1, h2, h3⟩ := fitsE_zero hE
  obtain ⟨hW, hH, hl, _⟩ := planeOk_parts h2
  obtain ⟨k1, k2, k3, k4, k5, k6, _, _⟩ := partOk_iff.1 hok
  obtain ⟨WN, eW⟩ := Int.eq_ofNat_of_zero_le (show 0 ≤ W by omega)
  obtain ⟨HN, eH⟩ := Int.eq_ofNat_of_zero_le (show 0 ≤ H by omega)
  obtain ⟨BN, eB⟩ := Int.eq_ofNat_of_zero_le (show 0 ≤ height by omega)
  obtain ⟨TN, eT⟩ := Int.eq_ofNat_of_zero_le (show 0 ≤ top by omega)
  obtain ⟨FN, eF⟩ := Int.eq_ofNat_of_zero_le (show 0 ≤ fm by omega)
  obtain ⟨EN, eN⟩ := Int.eq_ofNat_of_zero_le (show 0 ≤ tm by omega)
  have hlz : zs.length = HN * WN := by rw [eW, eH] at hl; rw [Nat.mul_comm]; exact_mod_cast hl
  have hBT : TN + HN ≤ BN := by omega
  have hpa : planeOk W height (allL WN TN HN BN zs) = true := allL_ok eW eH eB h2 k1 hBT
  have hd : DevOk n W height (allL WN TN HN BN zs) := devOk_of h1 hpa h3
  replace HPT := hide (show partL n W H zs top fm tm = rowsL (dev7 n W height (allL WN TN HN BN zs)) WN FN (EN - FN) by
    rw [HPT.out, show W.toNat = WN by omega, show top.toNat = TN by omega, show H.toNat = HN by omega, show height.toNat = BN by omega, show fm.toNat = FN by omega, show (tm - fm).toNat = EN - FN by omega])
  have hSP := splice_all WN TN HN BN zs hlz hBT
  have hAL := allL_length (W := WN) (top := TN) (height := BN) hlz hBT
  have HWO := hide (fun (u : World) (hu : Below w.heap.size w u) (q : Value) (hq : IsInts u q (allL WN TN HN BN zs)) => wholeOf_any n sv cv W height q (allL WN TN HN BN zs) u (HP.out.below hu (Nat.le_refl _)) hq hd)
  have hDL : (dev7 n W height (allL WN TN HN BN zs)).length = BN * WN := by rw [dev7_length, hAL]
  generalize dev7 n W height (allL WN TN HN BN zs) = D at *
  generalize allL WN TN HN BN zs = AL at *
  clear hd hpa hok hE h1 h2 h3
  obtain ⟨N, hN⟩ : ∃ N, BN * WN = N := ⟨_, rfl⟩
  obtain ⟨A, hA⟩ : ∃ A, TN * WN = A := ⟨_, rfl⟩
  obtain ⟨F, hF⟩ : ∃ F, FN * WN = F := ⟨_, rfl⟩
  obtain ⟨M, hM⟩ : ∃ M, (EN - FN) * WN = M := ⟨_, rfl⟩
  have hN4 : N ≤ 4096 := by rw [← hN]; exact Nat.le_trans (Nat.mul_le_mul (show BN ≤ 64 by omega) (show WN ≤ 64 by omega)) (by decide)
  have hAZ : A + zs.length ≤ N := by rw [hlz, ← hA, ← hN, ← Nat.add_mul]; exact Nat.mul_le_mul_right _ hBT
  have hZ1 : 1 ≤ zs.length := by rw [hlz]; exact Nat.mul_le_mul (show 1 ≤ HN by omega) (show 1 ≤ WN by omega)
  have hM1 : 1 ≤ M := by rw [← hM]; exact Nat.mul_le_mul (show 1 ≤ EN - FN by omega) (show 1 ≤ WN by omega)
  have hFM : F + M ≤ N := by rw [← hF, ← hM, ← hN, ← Nat.add_mul]; exact Nat.mul_le_mul_right _ (by omega)
  have m1 : W * height = (N : Int) := by rw [eW, eB, ← hN, Int.natCast_mul, Int.mul_comm]
  have m2 : top * W = (A : Int) := by rw [eW, eT, ← hA, Int.natCast_mul]
  have m3 : fm * W = (F : Int) := by rw [eW, eF, ← hF, Int.natCast_mul]
  obtain ⟨G, hG⟩ : ∃ G, F + M = G := ⟨_, rfl⟩
  have hGF : G - F = M := by omega
  have m4 : tm * W = (G : Int) := by
    rw [eW, eN, ← hG, ← hF, ← hM, ← Nat.add_mul, ← Int.natCast_mul, show FN + (EN - FN) = EN by omega]
  have hDN : D.length = N := by rw [hDL, hN]
  have hAN : AL.length = N := by rw [hAL, hN]
  rw [hN, hA] at hSP
  have HRW := hide (show partL n W H zs top fm tm = (D.drop F).take M by rw [HPT.out, rowsL, hF, hM])
  clear HPT hDL hAL hlz hl eW eH eB eT eF eN hN hA hF hM hBT
  have w1 : IntKind.i64.wrap (N : Int) = (N : Int) := IntWalk.i64_in _ (by omega)
  have w2 : IntKind.i64.wrap (A : Int) = (A : Int) := IntWalk.i64_in _ (by omega)
  have w3 : IntKind.i64.wrap (F : Int) = (F : Int) := IntWalk.i64_in _ (by omega)
  have w4 : IntKind.i64.wrap (G : Int) = (G : Int) := IntWalk.i64_in _ (by omega)
  have w5 : IntKind.i64.wrap (tm - fm) = tm - fm := IntWalk.i64_in _ (by omega)
  obtain ⟨i0, hi, hz0, hz1, hz2⟩ := info_parts Try.infoInt
  have hmk : ∀ V : World, (Instr.makeSlice 22 (.int .i64 N) (.int .i64 N)).run Try.prog V = .ok (.slice (some ⟨V.heap.size, 0, none⟩) N N) (V.alloc (Obj.cells (madeCells #[.int .i64 0] N) 3)) := fun V => by
    have h := run_make (P := Try.prog) V 22 3 i0 (.int .i64 0) Try.underlying22 hi hz0 .i64 .i64 N N (by omega) (by omega) (by rw [hz2]; omega) (by omega)
    rw [hz1] at h
    simp only [Nat.mul_one] at h
    exact h
  obtain ⟨⟨lo, lc, rfl, hll, _⟩, ⟨ko, kc, rfl, hkl, _⟩⟩ := hp
  obtain ⟨ao, ca, rfl, _, hzc⟩ := hv
  obtain ⟨a1, a2, a3⟩ := al3 w (Obj.cells (planA n (.slice lo n.spots.length lc) (.slice ko n.curve.length kc)) 75) (Obj.cells #[.int .i64 W, .int .i64 H, .slice ao zs.length ca] 24) (Obj.cells #[.int .i64 0, .int .i64 0, .slice none 0 0] 39)
  have HB := hide (be3 w (Obj.cells (planA n (.slice lo n.spots.length lc) (.slice ko n.curve.length kc)) 75) (Obj.cells #[.int .i64 W, .int .i64 H, .slice ao zs.length ca] 24) (Obj.cells #[.int .i64 0, .int .i64 0, .slice none 0 0] 39))
  go_enter Try.func50, Try.ntmps50
  go_upto_region 1 with fail
  have hl1 := (Array.getElem?_eq_some_iff.1 a1).1
  have hl2 := (Array.getElem?_eq_some_iff.1 a2).1
  have hl3 := (Array.getElem?_eq_some_iff.1 a3).1
  generalize ((w.alloc (Obj.cells (planA n (.slice lo n.spots.length lc) (.slice ko n.curve.length kc)) 75)).alloc (Obj.cells #[.int .i64 W, .int .i64 H, .slice ao zs.length ca] 24)).alloc (Obj.cells #[.int .i64 0, .int .i64 0, .slice none 0 0] 39) = U at *
  have HS := hide (show ∀ v, Below U.heap.size U v → v.cell? ⟨w.heap.size + 1, 0, none⟩ = some (.int .i64 W) ∧ v.cell? ⟨w.heap.size + 1, 2, none⟩ = some (.slice ao zs.length ca) from fun v h => by
    obtain ⟨y0, _, y2⟩ := cells3 ((h.block _ hl2).trans a2)
    exact ⟨y0, y2⟩)
  go_cut [13] from 14 (fun q v => ∃ PX MB, q = .pointer (some ⟨PX, 0, none⟩) ∧ v.heap[PX]? = some (.cells #[.int .i64 W, .int .i64 height, .slice (some ⟨MB, 0, none⟩) N N] 24 (0, 0)) ∧ v.heap[MB]? = some (.cells (madeCells #[.int .i64 0] N) 3 (0, 0)) ∧ U.heap.size ≤ PX ∧ U.heap.size ≤ MB ∧ PX ≠ MB ∧ Below U.heap.size U v)
  case first =>
    have hWd : Below U.heap.size U U.drew := (Below.refl _ _).drew
    have hSd := HS.out _ hWd
    have hmx : Try.prog.follows .mixedOrders = true := by kernel_rfl
    refine wp_region_last (S := fun v : World => v.cell? ⟨w.heap.size + 1, 0, none⟩ = some (.int .i64 W) ∧ v.cell? ⟨w.heap.size + 1, 2, none⟩ = some (.slice ao zs.length ca)) (f := 10) hmx ?_
    show wpAnyF _ _ _ _ _ _ 11 _ _ U.drew
    refine wpAnyF_takeP (i := 0) (oi := _) (v := ?vv1) (some 15) [] rfl rfl (by kernel_rfl) (by kernel_rfl) (by kernel_rfl) (by kernel_rfl) (by kernel_rfl) (fun _ _ _ h => h) (Or.inl ⟨by rfl, ?yy1⟩) hSd ?rr1
    case yy1 => (intro wq hSq; obtain ⟨_, _⟩ := hSq; go_simp <;> with_reducible rfl)
    simp only [Act.put, List.setIfInBounds_toArray, List.set_cons_succ, List.set_cons_zero]
    refine wpAnyF_takeP (i := 2) (oi := _) (v := ?vv2) (some 17) [] rfl rfl (by kernel_rfl) (by kernel_rfl) (by kernel_rfl) (by kernel_rfl) (by kernel_rfl) (fun _ _ _ h => h) (Or.inl ⟨by rfl, ?yy2⟩) hSd ?rr2
    case yy2 => (intro wq hSq; obtain ⟨_, _⟩ := hSq; go_simp <;> with_reducible rfl)
    simp only [Act.put, List.setIfInBounds_toArray, List.set_cons_succ, List.set_cons_zero]
    refine wpAnyF_takeP (i := 3) (oi := _) (v := ?vv3) (some 18) [] rfl rfl (by kernel_rfl) (by kernel_rfl) (by kernel_rfl) (by kernel_rfl) (by kernel_rfl) (fun _ _ _ h => h) (Or.inl ⟨by rfl, ?yy3⟩) hSd ?rr3
    case yy3 => (intro wq hSq; obtain ⟨_, _⟩ := hSq; go_simp <;> with_reducible rfl)
    simp only [Act.put, List.setIfInBounds_toArray, List.set_cons_succ, List.set_cons_zero]
    refine wpAnyF_takeP (i := 5) (oi := _) (v := ?vv4) (some 20) [] rfl rfl (by kernel_rfl) (by kernel_rfl) (by kernel_rfl) (by kernel_rfl) (by kernel_rfl) (fun _ _ _ h => h) (Or.inl ⟨by rfl, ?yy4⟩) hSd ?rr4
    case yy4 => (intro wq hSq; obtain ⟨_, _⟩ := hSq; go_simp <;> with_reducible rfl)
    simp only [Act.put, List.setIfInBounds_toArray, List.set_cons_succ, List.set_cons_zero]
    refine wpAnyF_takeP (i := 1) (oi := _) (v := ?vv5) (some 16) [] rfl rfl (by kernel_rfl) (by kernel_rfl) (by kernel_rfl) (by kernel_rfl) (by kernel_rfl) (fun _ _ _ h => h) (Or.inl ⟨by rfl, ?yy5⟩) hSd ?rr5
    case yy5 => (intro wq hSq; obtain ⟨_, _⟩ := hSq; go_simp <;> with_reducible rfl)
    simp only [Act.put, List.setIfInBounds_toArray, List.set_cons_succ, List.set_cons_zero]
    refine wpAnyF_takeP (i := 4) (oi := _) (v := ?vv6) (some 19) [] rfl rfl (by kernel_rfl) (by kernel_rfl) (by kernel_rfl) (by kernel_rfl) (by kernel_rfl) (fun _ _ _ h => h) (Or.inl ⟨by rfl, ?yy6⟩) hSd ?rr6
    case yy6 => (intro wq hSq; obtain ⟨_, _⟩ := hSq; go_simp <;> with_reducible rfl)
    simp only [Act.put, List.setIfInBounds_toArray, List.set_cons_succ, List.set_cons_zero]
    refine wpAnyF_takeP (i := 6) (oi := _) (v := ?vv7) (some 21) [] rfl rfl (by kernel_rfl) (by kernel_rfl) (by kernel_rfl) (by kernel_rfl) (by kernel_rfl) (fun _ _ _ h => h) (Or.inl ⟨by rfl, ?yy7⟩) hSd ?rr7
    case yy7 => (intro wq hSq; obtain ⟨_, _⟩ := hSq; go_simp <;> with_reducible rfl)
    simp only [Act.put, List.setIfInBounds_toArray, List.set_cons_succ, List.set_cons_zero]
    refine wpAnyF_two (i := 7) (j := 9) (oi := _) (oj := _) (by kernel_rfl) rfl rfl (fun K' hK => ?brA) (fun K' hK => ?brB)
    case brA =>
      rw [if_pos (by rfl)]
      go_simp
      have hBm : Below U.heap.size U (U.alloc (Obj.cells (madeCells #[.int .i64 0] N) 3)).drew := (bel_alloc U _).drew
      have hSd := HS.out _ hBm
      refine hK.out _ _ hSd ?_
      clear hK
      try simp only [Act.put]
      refine wpAnyF_takeP (i := 8) (oi := _) (v := ?vv8) (some 23) [] rfl rfl (by kernel_rfl) (by kernel_rfl) (by kernel_rfl) (by kernel_rfl) (by kernel_rfl) (fun _ _ _ h => h) (Or.inl ⟨by rfl, ?yy8⟩) hSd ?rr8
      case yy8 => (intro wq hSq; obtain ⟨_, _⟩ := hSq; go_simp <;> with_reducible rfl)
      simp only [Act.put, List.setIfInBounds_toArray, List.set_cons_succ, List.set_cons_zero]
      refine wpAnyF_one (i := 9) (o := _) (by kernel_rfl) rfl (fun K' hK => ?_)
      rw [if_pos (by rfl)]
      go_simp
      have hBn : Below U.heap.size U ((U.alloc (Obj.cells (madeCells #[.int .i64 0] N) 3)).alloc (Obj.cells #[.int .i64 0, .int .i64 0, .slice none 0 0] 24)).drew := (be2 U _ _).drew
      have hSd := HS.out _ hBn
      refine hK.out _ _ hSd ?_
      clear hK
      try simp only [Act.put]
      obtain ⟨v1, v2⟩ := al2 U (Obj.cells (madeCells #[.int .i64 0] N) 3) ((Obj.cells #[.int .i64 W, .int .i64 height, .slice (some ⟨U.heap.size, 0, none⟩) N N] 24))
      refine wpAnyF_last (o := _) (by kernel_rfl) rfl (fun K' hK => ?_)
      rw [if_pos (by rfl)]
      go_simp
      refine hK.out _ _ ?_
      clear hK
      refine wpAnyF_done (by kernel_rfl) ?_ _
      try simp only [Act.put]
      clear hSd
      go_wp2
      go_meet
      case rel => exact ⟨U.heap.size + 1, U.heap.size, rfl, v2, v1, by omega, Nat.le_refl _, by omega, (be2 U _ _).drew⟩
    case brB =>
      rw [if_pos (by rfl)]
      go_simp
      have hBm : Below U.heap.size U (U.alloc (Obj.cells #[.int .i64 0, .int .i64 0, .slice none 0 0] 24)).drew := (bel_alloc U _).drew
      have hSd := HS.out _ hBm
      refine hK.out _ _ hSd ?_
      clear hK
      try simp only [Act.put]
      refine wpAnyF_one (i := 7) (o := _) (by kernel_rfl) rfl (fun K' hK => ?_)
      rw [if_pos (by rfl)]
      go_simp
      have hBn : Below U.heap.size U ((U.alloc (Obj.cells #[.int .i64 0, .int .i64 0, .slice none 0 0] 24)).alloc (Obj.cells (madeCells #[.int .i64 0] N) 3)).drew := (be2 U _ _).drew
      have hSd := HS.out _ hBn
      refine hK.out _ _ hSd ?_
      clear hK
      try simp only [Act.put]
      refine wpAnyF_takeP (i := 8) (oi := _) (v := ?vv9) (some 23) [] rfl rfl (by kernel_rfl) (by kernel_rfl) (by kernel_rfl) (by kernel_rfl) (by kernel_rfl) (fun _ _ _ h => h) (Or.inl ⟨by rfl, ?yy9⟩) hSd ?rr9
      case yy9 => (intro wq hSq; obtain ⟨_, _⟩ := hSq; go_simp <;> with_reducible rfl)
      simp only [Act.put, List.setIfInBounds_toArray, List.set_cons_succ, List.set_cons_zero]
      obtain ⟨v1, v2⟩ := al2 U (Obj.cells #[.int .i64 W, .int .i64 height, .slice (some ⟨U.heap.size + 1, 0, none⟩) N N] 24) (Obj.cells (madeCells #[.int .i64 0] N) 3)
      refine wpAnyF_last (o := _) (by kernel_rfl) rfl (fun K' hK => ?_)
      rw [if_pos (by rfl)]
      go_simp
      refine hK.out _ _ ?_
      clear hK
      refine wpAnyF_done (by kernel_rfl) ?_ _
      try simp only [Act.put]
      clear hSd
      go_wp2
      go_meet
      case rel => exact ⟨U.heap.size, U.heap.size + 1, rfl, v1, v2, Nat.le_refl _, by omega, by omega, (be2 U _ _).drew⟩
  case rest =>
    obtain ⟨PX, MB, rfl, c1, c2, hPX, hMB, hPM, vB⟩ := hcut
    rw [made_zero] at c2
    have hlP := (Array.getElem?_eq_some_iff.1 c1).1
    have hlM := (Array.getElem?_eq_some_iff.1 c2).1
    have g1 : ¬ (N = A) := by omega
    have g2 : (A : Int) ≤ (N : Int) := by omega
    go_upto_region 2 with fail
    obtain ⟨zb, zo, rfl, hzb, hzc⟩ : ∃ zb zo, ao = some ⟨zb, zo, none⟩ ∧ zb < w.heap.size ∧ ∀ j (h : j < zs.length), w.cell? ⟨zb, zo + j, none⟩ = some (.int .i64 zs[j]) := by
      rcases hzc with hzc | ⟨zb, zo, h1, h2, h3⟩
      · rw [hzc] at hZ1; simp at hZ1
      · exact ⟨zb, zo, h1, h2, h3⟩
    have HZC := hide hzc
    clear hzc
    have HBC := hide (HB.out.trans (vB.mono HB.out.size))
    have HS2 := hide (show ∀ v, Below wc.heap.size wc v → v.cell? ⟨w.heap.size + 1, 0, none⟩ = some (.int .i64 W) ∧ v.cell? ⟨w.heap.size + 1, 2, none⟩ = some (.slice (some ⟨zb, zo, none⟩) zs.length ca) ∧ v.cell? ⟨PX, 2, none⟩ = some (.slice (some ⟨MB, 0, none⟩) N N) from fun v h => by
      obtain ⟨y0, y2⟩ := HS.out _ (bel_trans vB h)
      obtain ⟨_, _, x2⟩ := cells3 ((h.block _ hlP).trans c1)
      exact ⟨y0, y2, x2⟩)
    have hWd : Below wc.heap.size wc wc.drew := (Below.refl _ _).drew
    have hSd := HS2.out _ hWd
    have hmx : Try.prog.follows .mixedOrders = true := by kernel_rfl
    refine wp_region_last (S := fun v : World => v.cell? ⟨w.heap.size + 1, 0, none⟩ = some (.int .i64 W) ∧ v.cell? ⟨w.heap.size + 1, 2, none⟩ = some (.slice (some ⟨zb, zo, none⟩) zs.length ca) ∧ v.cell? ⟨PX, 2, none⟩ = some (.slice (some ⟨MB, 0, none⟩) N N)) (f := 9) hmx ?_
    show wpAnyF _ _ _ _ _ _ 10 _ _ wc.drew
    refine wpAnyF_takeP (i := 0) (oi := _) (v := ?vv10) (some 24) [6, 1] rfl rfl (by kernel_rfl) (by kernel_rfl) (by kernel_rfl) (by kernel_rfl) (by kernel_rfl) (fun _ _ _ h => h) (Or.inl ⟨by rfl, ?yy10⟩) hSd ?rr10
    case yy10 => (intro wq hSq; obtain ⟨_, _, _⟩ := hSq; go_simp <;> with_reducible rfl)
    simp only [Act.put, List.setIfInBounds_toArray, List.set_cons_succ, List.set_cons_zero]
    refine wpAnyF_takeP (i := 2) (oi := _) (v := ?vv11) (some 26) [6, 5] rfl rfl (by kernel_rfl) (by kernel_rfl) (by kernel_rfl) (by kernel_rfl) (by kernel_rfl) (fun _ _ _ h => h) (Or.inl ⟨by rfl, ?yy11⟩) hSd ?rr11
    case yy11 => (intro wq hSq; obtain ⟨_, _, _⟩ := hSq; go_simp <;> with_reducible rfl)
    simp only [Act.put, List.setIfInBounds_toArray, List.set_cons_succ, List.set_cons_zero]
    refine wpAnyF_takeP (i := 3) (oi := _) (v := ?vv12) (some 27) [6, 5, 4] rfl rfl (by kernel_rfl) (by kernel_rfl) (by kernel_rfl) (by kernel_rfl) (by kernel_rfl) (fun _ _ _ h => h) (Or.inl ⟨by rfl, ?yy12⟩) hSd ?rr12
    case yy12 => (intro wq hSq; obtain ⟨_, _, _⟩ := hSq; go_simp <;> with_reducible rfl)
    simp only [Act.put, List.setIfInBounds_toArray, List.set_cons_succ, List.set_cons_zero]
    refine wpAnyF_takeP (i := 7) (oi := _) (v := ?vv13) (some 31) [8] rfl rfl (by kernel_rfl) (by kernel_rfl) (by kernel_rfl) (by kernel_rfl) (by kernel_rfl) (fun _ _ _ h => h) (Or.inl ⟨by rfl, ?yy13⟩) hSd ?rr13
    case yy13 => (intro wq hSq; obtain ⟨_, _, _⟩ := hSq; go_simp <;> with_reducible rfl)
    simp only [Act.put, List.setIfInBounds_toArray, List.set_cons_succ, List.set_cons_zero]
    refine wpAnyF_takeP (i := 1) (oi := _) (v := ?vv14) (some 25) [6] rfl rfl (by kernel_rfl) (by kernel_rfl) (by kernel_rfl) (by kernel_rfl) (by kernel_rfl) (fun _ _ _ h => h) (Or.inl ⟨by rfl, ?yy14⟩) hSd ?rr14
    case yy14 => (intro wq hSq; obtain ⟨_, _, _⟩ := hSq; go_simp <;> with_reducible rfl)
    simp only [Act.put, List.setIfInBounds_toArray, List.set_cons_succ, List.set_cons_zero]
    refine wpAnyF_takeP (i := 4) (oi := _) (v := ?vv15) (some 28) [6, 5] rfl rfl (by kernel_rfl) (by kernel_rfl) (by kernel_rfl) (by kernel_rfl) (by kernel_rfl) (fun _ _ _ h => h) (Or.inl ⟨by rfl, ?yy15⟩) hSd ?rr15
    case yy15 => (intro wq hSq; obtain ⟨_, _, _⟩ := hSq; go_simp <;> with_reducible rfl)
    simp only [Act.put, List.setIfInBounds_toArray, List.set_cons_succ, List.set_cons_zero]
    refine wpAnyF_takeP (i := 8) (oi := _) (v := ?vv16) (some 32) [] rfl rfl (by kernel_rfl) (by kernel_rfl) (by kernel_rfl) (by kernel_rfl) (by kernel_rfl) (fun _ _ _ h => h) (Or.inl ⟨by rfl, ?yy16⟩) hSd ?rr16
    case yy16 => (intro wq hSq; obtain ⟨_, _, _⟩ := hSq; go_simp <;> with_reducible rfl)
    simp only [Act.put, List.setIfInBounds_toArray, List.set_cons_succ, List.set_cons_zero]
    refine wpAnyF_takeP (i := 5) (oi := _) (v := ?vv17) (some 29) [6] rfl rfl (by kernel_rfl) (by kernel_rfl) (by kernel_rfl) (by kernel_rfl) (by kernel_rfl) (fun _ _ _ h => h) (Or.inl ⟨by rfl, ?yy17⟩) hSd ?rr17
    case yy17 => (intro wq hSq; obtain ⟨_, _, _⟩ := hSq; go_simp <;> with_reducible rfl)
    simp only [Act.put, List.setIfInBounds_toArray, List.set_cons_succ, List.set_cons_zero]
    refine wpAnyF_takeP (i := 6) (oi := _) (v := ?vv18) (some 30) [] rfl rfl (by kernel_rfl) (by kernel_rfl) (by kernel_rfl) (by kernel_rfl) (by kernel_rfl) (fun _ _ _ h => h) (Or.inl ⟨by rfl, ?yy18⟩) hSd ?rr18
    case yy18 => (intro wq hSq; obtain ⟨_, _, _⟩ := hSq; go_simp <;> with_reducible rfl)
    simp only [Act.put, List.setIfInBounds_toArray, List.set_cons_succ, List.set_cons_zero]
    refine wpAnyF_last (o := _) (by kernel_rfl) rfl (fun K' hK => ?_)
    refine step_copy_else rfl (.tmp 30) (.tmp 32) 22 22 rfl 3 Try.underlying22 (by kernel_rfl) _ _ _ _ _ MB A rfl rfl (List.replicate N (.int .i64 0)) 3 c2 (zs.map (Value.int .i64)) ?cn ?cp ?cf ?co U.heap.size U vB.drew hMB ?ck
    case cn => rw [List.length_map]; exact (Nat.min_eq_left (by omega)).symm
    case cp =>
      intro j u hj
      rw [List.getElem?_map] at hj
      obtain ⟨z, hz, rfl⟩ := Option.map_eq_some_iff.1 hj
      obtain ⟨hlt, rfl⟩ := List.getElem?_eq_some_iff.1 hz
      rw [Go.WideShapes.add_plain]
      exact (HBC.out.drew.cell (p := ⟨zb, zo + j, none⟩) hzb).trans (HZC.out j hlt)
    case cf => rw [List.length_map, List.length_replicate]; exact hAZ
    case co =>
      intro u hu
      obtain ⟨z, _, rfl⟩ := List.mem_map.1 hu
      rfl
    intro wd c3 c4 vD
    replace c3 := c3.out
    rw [hSP] at c3
    refine hK.out _ _ ?_
    clear hK
    refine wpAnyF_done (by kernel_rfl) ?_ _
    try simp only [Act.put]
    have c5 := (c4 PX hPM).trans c1
    clear c4 hSd
    have HBD := hide (HB.out.trans (vD.mono HB.out.size))
    have HAL := hide (show IsInts wd (.slice (some ⟨MB, 0, none⟩) N N) AL by
      have h := ints_block c3 (by omega)
      rw [hAN] at h
      exact h)
    have b1 := (vD.block _ hl1).trans a1
    obtain ⟨p0, p1, p2⟩ := cells3 c5
    go_wp2_with (refine wpList_load_row rfl 75 _ rfl _ rfl _ _ _ _ b1 Try.underlying75 rfl (by kernel_rfl) ?_)
    clear p0 p1 p2 b1
    refine (HWO.out _ HBD.out _ HAL.out).mono ?_
    rintro e we ⟨r, rfl, hr, hbe, hfr⟩
    have HR := hide hr
    have hrm := hfr.2
    obtain ⟨ro, rc, rfl, x1, x2⟩ := hr
    rcases x2 with x2 | ⟨rb, rf, rfl, x3, x4⟩
    · rw [x2] at hDN; simp at hDN; omega
    clear x1 x4
    rw [hDN] at HR hfr hrm ⊢
    replace hrm : N ≤ rc := hrm
    have vE := bel_trans vD hbe
    have HBE := hide (HB.out.trans (vE.mono HB.out.size))
    have h0 : 1 ≤ M := hM1
    have g3 : ¬ (rc = F) := by omega
    have g4 : (F : Int) ≤ (G : Int) := by omega
    have g5 : (G : Int) ≤ (rc : Int) := by omega
    have g6' : F ≤ G := by omega
    go_upto_region 4 with fail
    have t1 := al1 we (Obj.cells #[.int .i64 W, .int .i64 height, .slice (some ⟨rb, rf, none⟩) N rc] 39)
    have HR2 := hide (HR.out.alloc (Obj.cells #[.int .i64 W, .int .i64 height, .slice (some ⟨rb, rf, none⟩) N rc] 39))
    have vF := bel_trans vE (bel_alloc we (Obj.cells #[.int .i64 W, .int .i64 height, .slice (some ⟨rb, rf, none⟩) N rc] 39))
    have hlT := (Array.getElem?_eq_some_iff.1 t1).1
    have hwe := vE.size
    generalize we.alloc (Obj.cells #[.int .i64 W, .int .i64 height, .slice (some ⟨rb, rf, none⟩) N rc] 39) = wf at *
    generalize we.heap.size = QX at *
    have HS3 := hide (show ∀ v, Below wf.heap.size wf v → v.cell? ⟨w.heap.size + 1, 0, none⟩ = some (.int .i64 W) ∧ v.cell? ⟨QX, 2, none⟩ = some (.slice (some ⟨rb, rf, none⟩) N rc) from fun v h => by
      obtain ⟨y0, _⟩ := HS.out _ (bel_trans vF h)
      obtain ⟨_, _, x2⟩ := cells3 ((h.block _ hlT).trans t1)
      exact ⟨y0, x2⟩)
    have hWf : Below wf.heap.size wf wf.drew := (Below.refl _ _).drew
    have hSd := HS3.out _ hWf
    have g6 := (vF.block _ hl3).trans a3
    obtain ⟨z0, z1, z2⟩ := cells3 (w := wf) (b := w.heap.size + 1 + 1) g6
    have f0 := Lib.frozen_of_heap (w := wf) (b := w.heap.size + 1 + 1) g6 0
    have f1 := Lib.frozen_of_heap (w := wf) (b := w.heap.size + 1 + 1) g6 1
    have f2 := Lib.frozen_of_heap (w := wf) (b := w.heap.size + 1 + 1) g6 2
    have hmx : Try.prog.follows .mixedOrders = true := by kernel_rfl
    refine wp_region_last (S := fun v : World => v.cell? ⟨w.heap.size + 1, 0, none⟩ = some (.int .i64 W) ∧ v.cell? ⟨QX, 2, none⟩ = some (.slice (some ⟨rb, rf, none⟩) N rc)) (f := 17) hmx ?_
    show wpAnyF _ _ _ _ _ _ 18 _ _ wf.drew
    refine wpAnyF_takeP (i := 0) (oi := _) (v := ?vv19) (some 37) [] rfl rfl (by kernel_rfl) (by kernel_rfl) (by kernel_rfl) (by kernel_rfl) (by kernel_rfl) (fun _ _ _ h => h) (Or.inl ⟨by rfl, ?yy19⟩) hSd ?rr19
    case yy19 => (intro wq hSq; obtain ⟨_, _⟩ := hSq; go_simp <;> with_reducible rfl)
    simp only [Act.put, List.setIfInBounds_toArray, List.set_cons_succ, List.set_cons_zero]
    refine wpAnyF_takeP (i := 2) (oi := _) (v := ?vv20) (some 39) [] rfl rfl (by kernel_rfl) (by kernel_rfl) (by kernel_rfl) (by kernel_rfl) (by kernel_rfl) (fun _ _ _ h => h) (Or.inl ⟨by rfl, ?yy20⟩) hSd ?rr20
    case yy20 => (intro wq hSq; obtain ⟨_, _⟩ := hSq; go_simp <;> with_reducible rfl)
    simp only [Act.put, List.setIfInBounds_toArray, List.set_cons_succ, List.set_cons_zero]
    refine wpAnyF_takeP (i := 3) (oi := _) (v := ?vv21) (some 40) [] rfl rfl (by kernel_rfl) (by kernel_rfl) (by kernel_rfl) (by kernel_rfl) (by kernel_rfl) (fun _ _ _ h => h) (Or.inl ⟨by rfl, ?yy21⟩) hSd ?rr21
    case yy21 => (intro wq hSq; obtain ⟨_, _⟩ := hSq; go_simp <;> with_reducible rfl)
    simp only [Act.put, List.setIfInBounds_toArray, List.set_cons_succ, List.set_cons_zero]
    refine wpAnyF_takeP (i := 5) (oi := _) (v := ?vv22) (some 42) [] rfl rfl (by kernel_rfl) (by kernel_rfl) (by kernel_rfl) (by kernel_rfl) (by kernel_rfl) (fun _ _ _ h => h) (Or.inl ⟨by rfl, ?yy22⟩) hSd ?rr22
    case yy22 => (intro wq hSq; obtain ⟨_, _⟩ := hSq; go_simp <;> with_reducible rfl)
    simp only [Act.put, List.setIfInBounds_toArray, List.set_cons_succ, List.set_cons_zero]
    refine wpAnyF_takeP (i := 7) (oi := _) (v := ?vv23) (some 44) [] rfl rfl (by kernel_rfl) (by kernel_rfl) (by kernel_rfl) (by kernel_rfl) (by kernel_rfl) (fun _ _ _ h => h) (Or.inl ⟨by rfl, ?yy23⟩) hSd ?rr23
    case yy23 => (intro wq hSq; obtain ⟨_, _⟩ := hSq; go_simp <;> with_reducible rfl)
    simp only [Act.put, List.setIfInBounds_toArray, List.set_cons_succ, List.set_cons_zero]
    refine wpAnyF_takeP (i := 8) (oi := _) (v := ?vv24) (some 45) [] rfl rfl (by kernel_rfl) (by kernel_rfl) (by kernel_rfl) (by kernel_rfl) (by kernel_rfl) (fun _ _ _ h => h) (Or.inl ⟨by rfl, ?yy24⟩) hSd ?rr24
    case yy24 => (intro wq hSq; obtain ⟨_, _⟩ := hSq; go_simp <;> with_reducible rfl)
    simp only [Act.put, List.setIfInBounds_toArray, List.set_cons_succ, List.set_cons_zero]
    refine wpAnyF_takeP (i := 11) (oi := _) (v := ?vv25) (some 48) [] rfl rfl (by kernel_rfl) (by kernel_rfl) (by kernel_rfl) (by kernel_rfl) (by kernel_rfl) (fun _ _ _ h => h) (Or.inl ⟨by rfl, ?yy25⟩) hSd ?rr25
    case yy25 => (intro wq hSq; obtain ⟨_, _⟩ := hSq; go_simp <;> with_reducible rfl)
    simp only [Act.put, List.setIfInBounds_toArray, List.set_cons_succ, List.set_cons_zero]
    refine wpAnyF_takeP (i := 12) (oi := _) (v := ?vv26) (some 49) [] rfl rfl (by kernel_rfl) (by kernel_rfl) (by kernel_rfl) (by kernel_rfl) (by kernel_rfl) (fun _ _ _ h => h) (Or.inl ⟨by rfl, ?yy26⟩) hSd ?rr26
    case yy26 => (intro wq hSq; obtain ⟨_, _⟩ := hSq; go_simp <;> with_reducible rfl)
    simp only [Act.put, List.setIfInBounds_toArray, List.set_cons_succ, List.set_cons_zero]
    refine wpAnyF_takeP (i := 1) (oi := _) (v := ?vv27) (some 38) [] rfl rfl (by kernel_rfl) (by kernel_rfl) (by kernel_rfl) (by kernel_rfl) (by kernel_rfl) (fun _ _ _ h => h) (Or.inl ⟨by rfl, ?yy27⟩) hSd ?rr27
    case yy27 => (intro wq hSq; obtain ⟨_, _⟩ := hSq; go_simp <;> with_reducible rfl)
    simp only [Act.put, List.setIfInBounds_toArray, List.set_cons_succ, List.set_cons_zero]
    refine wpAnyF_takeP (i := 4) (oi := _) (v := ?vv28) (some 41) [] rfl rfl (by kernel_rfl) (by kernel_rfl) (by kernel_rfl) (by kernel_rfl) (by kernel_rfl) (fun _ _ _ h => h) (Or.inl ⟨by rfl, ?yy28⟩) hSd ?rr28
    case yy28 => (intro wq hSq; obtain ⟨_, _⟩ := hSq; go_simp <;> with_reducible rfl)
    simp only [Act.put, List.setIfInBounds_toArray, List.set_cons_succ, List.set_cons_zero]
    refine wpAnyF_takeP (i := 6) (oi := _) (v := ?vv29) (some 43) [] rfl rfl (by kernel_rfl) (by kernel_rfl) (by kernel_rfl) (by kernel_rfl) (by kernel_rfl) (fun _ _ _ h => h) (Or.inl ⟨by rfl, ?yy29⟩) hSd ?rr29
    case yy29 => (intro wq hSq; obtain ⟨_, _⟩ := hSq; go_simp <;> with_reducible rfl)
    simp only [Act.put, List.setIfInBounds_toArray, List.set_cons_succ, List.set_cons_zero]
    refine wpAnyF_takeP (i := 9) (oi := _) (v := ?vv30) (some 46) [] rfl rfl (by kernel_rfl) (by kernel_rfl) (by kernel_rfl) (by kernel_rfl) (by kernel_rfl) (fun _ _ _ h => h) (Or.inl ⟨by rfl, ?yy30⟩) hSd ?rr30
    case yy30 => (intro wq hSq; obtain ⟨_, _⟩ := hSq; go_simp <;> with_reducible rfl)
    simp only [Act.put, List.setIfInBounds_toArray, List.set_cons_succ, List.set_cons_zero]
    refine wpAnyF_takeP (i := 13) (oi := _) (v := ?vv31) (some 50) [] rfl rfl (by kernel_rfl) (by kernel_rfl) (by kernel_rfl) (by kernel_rfl) (by kernel_rfl) (fun _ _ _ h => h) (Or.inl ⟨by rfl, ?yy31⟩) hSd ?rr31
    case yy31 => (intro wq hSq; obtain ⟨_, _⟩ := hSq; go_simp <;> with_reducible rfl)
    simp only [Act.put, List.setIfInBounds_toArray, List.set_cons_succ, List.set_cons_zero]
    refine wpAnyF_takeP (i := 10) (oi := _) (v := ?vv32) (some 47) [] rfl rfl (by kernel_rfl) (by kernel_rfl) (by kernel_rfl) (by kernel_rfl) (by kernel_rfl) (fun _ _ _ h => h) (Or.inl ⟨by rfl, ?yy32⟩) hSd ?rr32
    case yy32 => (intro wq hSq; obtain ⟨_, _⟩ := hSq; go_simp <;> with_reducible rfl)
    simp only [Act.put, List.setIfInBounds_toArray, List.set_cons_succ, List.set_cons_zero]
    refine wpAnyF_takeP (i := 14) (oi := _) (v := ?vv33) (some 51) [] rfl rfl (by kernel_rfl) (by kernel_rfl) (by kernel_rfl) (by kernel_rfl) (by kernel_rfl) (fun _ _ _ h => h) (Or.inl ⟨by rfl, ?yy33⟩) hSd ?rr33
    case yy33 => (intro wq hSq; obtain ⟨_, _⟩ := hSq; go_simp <;> with_reducible rfl)
    simp only [Act.put, List.setIfInBounds_toArray, List.set_cons_succ, List.set_cons_zero]
    refine wpAnyF_takeP (i := 15) (oi := _) (v := ?vv34) (some 52) [] rfl rfl (by kernel_rfl) (by kernel_rfl) (by kernel_rfl) (by kernel_rfl) (by kernel_rfl) (fun _ _ _ h => h) (Or.inl ⟨by rfl, ?yy34⟩) hSd ?rr34
    case yy34 => (intro wq hSq; obtain ⟨_, _⟩ := hSq; go_simp <;> with_reducible rfl)
    simp only [Act.put, List.setIfInBounds_toArray, List.set_cons_succ, List.set_cons_zero]
    refine wpAnyF_takeP (i := 16) (oi := _) (v := ?vv35) (some 53) [] rfl rfl (by kernel_rfl) (by kernel_rfl) (by kernel_rfl) (by kernel_rfl) (by kernel_rfl) (fun _ _ _ h => h) (Or.inl ⟨by rfl, ?yy35⟩) hSd ?rr35
    case yy35 => (intro wq hSq; obtain ⟨_, _⟩ := hSq; go_simp <;> with_reducible rfl)
    simp only [Act.put, List.setIfInBounds_toArray, List.set_cons_succ, List.set_cons_zero]
    refine wpAnyF_last (o := _) (by kernel_rfl) rfl (fun K' hK => ?_)
    rw [if_pos (by rfl)]
    go_simp
    refine hK.out _ _ ?_
    clear hK
    refine wpAnyF_done (by kernel_rfl) ?_ _
    try simp only [Act.put]
    have HSUB := hide (show IsPix wf (.slice (some ⟨rb, rf + F * 3, none⟩) M (rc - F)) ((D.drop F).take M) by
      have h := HR2.out
      rw [← hDN] at h
      exact pix_sub h F M (by omega) hM1)
    have hFR : Fresh w.heap.size (.slice (some ⟨rb, rf + F * 3, none⟩) M (rc - F)) := ⟨fun b hb => Nat.le_trans HBD.out.size (hfr.1 b hb), show M ≤ rc - F by omega⟩
    have hFR2 : Fresh wd.heap.size (.slice (some ⟨rb, rf + F * 3, none⟩) M (rc - F)) := ⟨fun b hb => hfr.1 b hb, show M ≤ rc - F by omega⟩
    have hVD := vD.size
    have HX := hide (HSUB.out.set3 hFR2 (show w.heap.size + 1 + 1 < wd.heap.size by omega) (.int .i64 W) (.int .i64 (tm - fm)) (.slice (some ⟨rb, rf + F * 3, none⟩) M (rc - F)))
    have HF := hide (set3_below (HB.out.trans (vF.mono HB.out.size)) (show w.heap.size ≤ w.heap.size + 1 + 1 by omega) (.int .i64 W) (.int .i64 (tm - fm)) (.slice (some ⟨rb, rf + F * 3, none⟩) M (rc - F)))
    clear hSd
    go_wp2
    refine bodyPost_ret (v := .agg #[.int .i64 W, .int .i64 (tm - fm), .slice (some ⟨rb, rf + F * 3, none⟩) M (rc - F)]) (by simp [results, Try.results50, go_sem, z0, z1, z2]) rfl ⟨_, rfl, ?_, HF.out.drew, hFR⟩
    rw [HRW.out]
    exact HX.out
end Go.Proofs.Ytolcndchfnifhab

namespace Go.Proofs.Ytolcndchfnifhab
set_option linter.unusedVariables false
open Go.RowKit
set_option maxRecDepth 100000 in
set_option maxHeartbeats 16000000 in
theorem lineParts_walk (n : Plan) (sv cv : Value) (W H : Int) (v : Value) (zs : List Int) (top height fm tm : Int) (w : World) (hp : IsPlan w n sv cv) (hv : IsInts w v zs) :
    Calls Try.prog 12 #[.agg (planA n sv cv), .agg #[.int .i64 W, .int .i64 H, v], .int .i64 top, .int .i64 height, .int .i64 fm, .int .i64 tm] w fun e w' => e = .returned (.bool true) ∧ Below w.heap.size w w' := by
  have HP := hide hp
  have HV := hide hv
  have HC := hide (fun (u : World) (hu : Below w.heap.size w u) => linePart_any n sv cv W H v zs top height fm tm u (HP.out.below hu (Nat.le_refl _)) (HV.out.below hu (Nat.le_refl _)))
  have HE := hide (fun (u : World) (hu : Below w.heap.size w u) => partError_any n sv cv W H v zs top height fm tm u (HP.out.below hu (Nat.le_refl _)) (HV.out.below hu (Nat.le_refl _)))
  obtain ⟨⟨lo, lc, rfl, hll, _⟩, ⟨ko, kc, rfl, hkl, _⟩⟩ := hp
  obtain ⟨ao, ca, rfl, _, _⟩ := hv
  obtain ⟨a1, a2⟩ := al2 w (Obj.cells (planA n (.slice lo n.spots.length lc) (.slice ko n.curve.length kc)) 75) (Obj.cells #[.int .i64 W, .int .i64 H, .slice ao zs.length ca] 24)
  have HB := hide (be2 w (Obj.cells (planA n (.slice lo n.spots.length lc) (.slice ko n.curve.length kc)) 75) (Obj.cells #[.int .i64 W, .int .i64 H, .slice ao zs.length ca] 24))
  have hl1 := (Array.getElem?_eq_some_iff.1 a1).1
  have hl2 := (Array.getElem?_eq_some_iff.1 a2).1
  by_cases hE : partE n W H zs top height fm tm = 0
  · have HO := hide (fun (u : World) (hu : Below w.heap.size w u) => partOf_any n _ _ W H _ zs top height fm tm u (HP.out.below hu (Nat.le_refl _)) (HV.out.below hu (Nat.le_refl _)) hE)
    rw [hE, show okW 0 W = W from rfl, show okW 0 (tm - fm) = tm - fm from rfl, show okL 0 (partL n W H zs top fm tm) = partL n W H zs top fm tm from rfl] at HC
    rw [hE] at HE
    clear hE
    generalize partL n W H zs top fm tm = D at *
    generalize tm - fm = K at *
    go_enter Try.func12, Try.ntmps12
    obtain ⟨p0, p1, p2⟩ := cells3 a2
    go_wp2_with (refine wpList_load_row rfl 75 _ rfl _ rfl _ _ _ _ a1 Try.underlying75 rfl (by kernel_rfl) ?_)
    clear p0 p1 p2
    generalize (w.alloc (Obj.cells (planA n (.slice lo n.spots.length lc) (.slice ko n.curve.length kc)) 75)).alloc (Obj.cells #[.int .i64 W, .int .i64 H, .slice ao zs.length ca] 24) = U at *
    refine (HC.out _ HB.out).mono ?_
    rintro e w1 ⟨r, rfl, hr, hb1, hfr⟩
    have HR := hide hr
    obtain ⟨ro, rc, rfl, x1, x2⟩ := hr
    clear x1 x2
    obtain ⟨N, hN⟩ : ∃ N, (D : List Px).length = N := ⟨_, rfl⟩
    rw [hN] at HR hfr ⊢
    have HN := hide hN
    clear hN
    have t1 := al1 w1 (Obj.cells #[.int .i64 W, .int .i64 K, .slice ro N rc] 39)
    have hbx := bel_trans hb1 (bel_alloc w1 (Obj.cells #[.int .i64 W, .int .i64 K, .slice ro N rc] 39))
    have HR2 := hide (HR.out.alloc (Obj.cells #[.int .i64 W, .int .i64 K, .slice ro N rc] 39))
    have b1 := (hbx.block _ hl1).trans a1
    obtain ⟨p0, p1, p2⟩ := cells3 ((hbx.block _ hl2).trans a2)
    go_wp2_with (refine wpList_load_row rfl 75 _ rfl _ rfl _ _ _ _ b1 Try.underlying75 rfl (by kernel_rfl) ?_)
    clear p0 p1 p2 b1
    have hlt := (Array.getElem?_eq_some_iff.1 t1).1
    have HSZ := hide hb1.size
    generalize w1.alloc (Obj.cells #[.int .i64 W, .int .i64 K, .slice ro N rc] 39) = w2 at *
    have HB2 := hide (HB.out.trans (hbx.mono HB.out.size))
    refine (HE.out _ HB2.out).mono ?_
    rintro e w3 ⟨rfl, hb3⟩
    have t3 := al1 w3 (Obj.cells #[.int .i64 0, .int .i64 0, .slice none 0 0] 39)
    have hby := bel_trans hb3 (bel_alloc w3 (Obj.cells #[.int .i64 0, .int .i64 0, .slice none 0 0] 39))
    have g1 := (hby.block _ hlt).trans t1
    have HR4 := hide (HR2.out.below hby (Nat.le_refl _))
    have hbz := bel_trans hbx hby
    have HZ := hide hb3.size
    have HB4 := hide (HB.out.trans (hbz.mono HB.out.size))
    have b1 := (hbz.block _ hl1).trans a1
    obtain ⟨p0, p1, p2⟩ := cells3 ((hbz.block _ hl2).trans a2)
    go_wp2_with (refine wpList_load_row rfl 75 _ rfl _ rfl _ _ _ _ b1 Try.underlying75 rfl (by kernel_rfl) ?_)
    clear p0 p1 p2 b1
    have hl3 := (Array.getElem?_eq_some_iff.1 t3).1
    generalize w3.alloc (Obj.cells #[.int .i64 0, .int .i64 0, .slice none 0 0] 39) = w4 at *
    refine (HO.out _ HB4.out).mono ?_
    rintro e w5 ⟨s, rfl, hs, hb5, hfs⟩
    have HSX := hide hs
    obtain ⟨so, sc, rfl, x1, x2⟩ := hs
    clear x1 x2
    rw [HN.out] at HSX hfs ⊢
    have g3 := (hb5.block _ hl3).trans t3
    obtain ⟨z0, z1, z2⟩ := cells3 g3
    have f0 := Lib.frozen_of_heap g3 0
    have f1 := Lib.frozen_of_heap g3 1
    have f2 := Lib.frozen_of_heap g3 2
    have hlg := (Array.getElem?_eq_some_iff.1 g1).1
    have hBU5 := bel_trans hbz hb5
    have hz1 := HSZ.out
    have hz2 := HZ.out
    have hz3 := hb5.size
    obtain ⟨y1, y2, y3, y4⟩ := box3_set g3 (.int .i64 W) (.int .i64 K) (.slice so N sc) U (show U.heap.size ≤ w3.heap.size by omega) hBU5
    have HRB := hide (HSX.out.set3 hfs hl3 (.int .i64 W) (.int .i64 K) (.slice so N sc))
    have hne : w1.heap.size ≠ w3.heap.size := by omega
    replace g1 := (y2 w1.heap.size hne).trans ((hb5.block _ hlg).trans g1)
    have HRA := hide (pix_keep HR.out (HR4.out.below hb5 (Nat.le_refl _)) HN.out (show w1.heap.size ≤ w3.heap.size by omega) (.int .i64 W) (.int .i64 K) (.slice so N sc))
    have HBX := hide y4
    clear hne hz1 hz2 hz3
    go_upto_region 6 with fail
    clear z0 z1 z2 f0 f1 f2
    generalize ((w5.setCell ⟨w3.heap.size, 0, none⟩ (.int .i64 W)).setCell ⟨w3.heap.size, 1, none⟩ (.int .i64 K)).setCell ⟨w3.heap.size, 2, none⟩ (.slice so N sc) = X at *
    have g3 := y1
    clear y1 y2 y3 y4
    generalize w1.heap.size = QB at *
    generalize w3.heap.size = ZB at *
    have HBW := hide (HB.out.trans (HBX.out.mono HB.out.size))
    have k1 := (Array.getElem?_eq_some_iff.1 g1).1
    have k3 := (Array.getElem?_eq_some_iff.1 g3).1
    go_wp2_with fail
    refine (lineBegun_any _).mono ?_
    rintro e V0 ⟨rfl, hbv⟩
    obtain ⟨m0, m1, m2⟩ := cells3 ((hbv.block _ k1).trans g1)
    obtain ⟨n0, n1, n2⟩ := cells3 ((hbv.block _ k3).trans g3)
    go_wp2_with fail
    refine (samePictures_any W K _ D W K _ D _ (HRA.out.below hbv (Nat.le_refl _)) (HRB.out.below hbv (Nat.le_refl _))).mono ?_
    rintro e V3 ⟨rfl, hb9⟩
    rw [show sameB W K D W K D = true by simp [sameB]]
    go_wp2
    go_ret
    exact ⟨rfl, HBW.out.trans ((bel_trans hbv hb9).mono HBW.out.size)⟩
  · rw [okW, if_neg hE, okW, if_neg hE, okL, if_neg hE] at HC
    generalize partE n W H zs top height fm tm = E at *
    have hd : decide (E = 0) = false := decide_eq_false hE
    have hn : (E == 0) = false := by simpa using hE
    go_enter Try.func12, Try.ntmps12
    obtain ⟨p0, p1, p2⟩ := cells3 a2
    go_wp2_with (refine wpList_load_row rfl 75 _ rfl _ rfl _ _ _ _ a1 Try.underlying75 rfl (by kernel_rfl) ?_)
    clear p0 p1 p2
    generalize (w.alloc (Obj.cells (planA n (.slice lo n.spots.length lc) (.slice ko n.curve.length kc)) 75)).alloc (Obj.cells #[.int .i64 W, .int .i64 H, .slice ao zs.length ca] 24) = U at *
    refine (HC.out _ HB.out).mono ?_
    rintro e w1 ⟨r, rfl, hr, hb1, hfr⟩
    have HR := hide hr
    obtain ⟨ro, rc, rfl, x1, x2⟩ := hr
    clear x1 x2
    obtain ⟨N, hN⟩ : ∃ N, (([] : List Px) : List Px).length = N := ⟨_, rfl⟩
    rw [hN] at HR hfr ⊢
    have HN := hide hN
    clear hN
    have t1 := al1 w1 (Obj.cells #[.int .i64 0, .int .i64 0, .slice ro N rc] 39)
    have hbx := bel_trans hb1 (bel_alloc w1 (Obj.cells #[.int .i64 0, .int .i64 0, .slice ro N rc] 39))
    have HR2 := hide (HR.out.alloc (Obj.cells #[.int .i64 0, .int .i64 0, .slice ro N rc] 39))
    have b1 := (hbx.block _ hl1).trans a1
    obtain ⟨p0, p1, p2⟩ := cells3 ((hbx.block _ hl2).trans a2)
    go_wp2_with (refine wpList_load_row rfl 75 _ rfl _ rfl _ _ _ _ b1 Try.underlying75 rfl (by kernel_rfl) ?_)
    clear p0 p1 p2 b1
    have hlt := (Array.getElem?_eq_some_iff.1 t1).1
    have HSZ := hide hb1.size
    generalize w1.alloc (Obj.cells #[.int .i64 0, .int .i64 0, .slice ro N rc] 39) = w2 at *
    have HB2 := hide (HB.out.trans (hbx.mono HB.out.size))
    refine (HE.out _ HB2.out).mono ?_
    rintro e w3 ⟨rfl, hb3⟩
    have t3 := al1 w3 (Obj.cells #[.int .i64 0, .int .i64 0, .slice none 0 0] 39)
    have hby := bel_trans hb3 (bel_alloc w3 (Obj.cells #[.int .i64 0, .int .i64 0, .slice none 0 0] 39))
    have g1 := (hby.block _ hlt).trans t1
    have HR4 := hide (HR2.out.below hby (Nat.le_refl _))
    have hbz := bel_trans hbx hby
    have HZ := hide hb3.size
    obtain rfl : N = 0 := HN.out.symm
    have g3 := t3
    have HRA := HR4
    have HRB := hide (IsPix.nil (w3.alloc (Obj.cells #[.int .i64 0, .int .i64 0, .slice none 0 0] 39)))
    have HBX := hide hbz
    go_upto_region 6 with fail
    generalize w3.alloc (Obj.cells #[.int .i64 0, .int .i64 0, .slice none 0 0] 39) = X at *
    generalize w1.heap.size = QB at *
    generalize w3.heap.size = ZB at *
    have HBW := hide (HB.out.trans (HBX.out.mono HB.out.size))
    have k1 := (Array.getElem?_eq_some_iff.1 g1).1
    have k3 := (Array.getElem?_eq_some_iff.1 g3).1
    go_wp2_with fail
    refine (lineBegun_any _).mono ?_
    rintro e V0 ⟨rfl, hbv⟩
    obtain ⟨m0, m1, m2⟩ := cells3 ((hbv.block _ k1).trans g1)
    obtain ⟨n0, n1, n2⟩ := cells3 ((hbv.block _ k3).trans g3)
    go_wp2_with fail
    refine (samePictures_any 0 0 _ ([] : List Px) 0 0 _ ([] : List Px) _ (HRA.out.below hbv (Nat.le_refl _)) (HRB.out.below hbv (Nat.le_refl _))).mono ?_
    rintro e V3 ⟨rfl, hb9⟩
    rw [show sameB 0 0 ([] : List Px) 0 0 ([] : List Px) = true by simp [sameB]]
    go_wp2
    go_ret
    exact ⟨rfl, HBW.out.trans ((bel_trans hbv hb9).mono HBW.out.size)⟩
end Go.Proofs.Ytolcndchfnifhab

namespace Go.Proofs.Ytolcndchfnifhab
set_option linter.unusedVariables false
open Go.RowKit
set_option maxRecDepth 100000 in
set_option maxHeartbeats 16000000 in
theorem lineStrips_walk (n : Plan) (sv cv : Value) (W H : Int) (v : Value) (zs : List Int) (rows : Int) (hroom : roomy v) (w : World) (hp : IsPlan w n sv cv) (hv : IsInts w v zs) :
    Calls Try.prog 13 #[.agg (planA n sv cv), .agg #[.int .i64 W, .int .i64 H, v], .int .i64 rows] w fun e w' => e = .returned (.bool true) ∧ Below w.heap.size w w' := by
  have HP := hide hp
  have HV := hide hv
  have HC := hide (fun (u : World) (hu : Below w.heap.size w u) => strips_any n sv cv W H v zs rows u (HP.out.below hu (Nat.le_refl _)) (HV.out.below hu (Nat.le_refl _)) hroom)
  have HE := hide (fun (u : World) (hu : Below w.heap.size w u) => wholeError_any n sv cv W H v zs u (HP.out.below hu (Nat.le_refl _)) (HV.out.below hu (Nat.le_refl _)))
  obtain ⟨⟨lo, lc, rfl, hll, _⟩, ⟨ko, kc, rfl, hkl, _⟩⟩ := hp
  obtain ⟨ao, ca, rfl, _, _⟩ := hv
  obtain ⟨a1, a2⟩ := al2 w (Obj.cells (planA n (.slice lo n.spots.length lc) (.slice ko n.curve.length kc)) 75) (Obj.cells #[.int .i64 W, .int .i64 H, .slice ao zs.length ca] 24)
  have HB := hide (be2 w (Obj.cells (planA n (.slice lo n.spots.length lc) (.slice ko n.curve.length kc)) 75) (Obj.cells #[.int .i64 W, .int .i64 H, .slice ao zs.length ca] 24))
  have hl1 := (Array.getElem?_eq_some_iff.1 a1).1
  have hl2 := (Array.getElem?_eq_some_iff.1 a2).1
  by_cases hE : fitsE n W H zs H = 0
  · by_cases hr : 1 ≤ rows
    · have HO := hide (fun (u : World) (hu : Below w.heap.size w u) => wholeOf_any n _ _ W H _ zs u (HP.out.below hu (Nat.le_refl _)) (HV.out.below hu (Nat.le_refl _)) (devOk_of (fitsE_zero hE).1 (fitsE_zero hE).2.1 (fitsE_zero hE).2.2))
      have hS : stripsE n W H zs rows = 0 := by rw [stripsE, if_pos hE, if_pos hr]
      have hd : decide (rows < 1) = false := by simp; omega
      rw [hS, show okW 0 W = W from rfl, show okW 0 H = H from rfl, show okL 0 (stripsL n W H zs rows) = stripsL n W H zs rows from rfl, strips_whole hE hr] at HC
      rw [hE] at HE
      clear hE hS
      generalize dev7 n W H zs = D at *
      go_enter Try.func13, Try.ntmps13
      obtain ⟨p0, p1, p2⟩ := cells3 a2
      go_wp2_with (refine wpList_load_row rfl 75 _ rfl _ rfl _ _ _ _ a1 Try.underlying75 rfl (by kernel_rfl) ?_)
      clear p0 p1 p2
      generalize (w.alloc (Obj.cells (planA n (.slice lo n.spots.length lc) (.slice ko n.curve.length kc)) 75)).alloc (Obj.cells #[.int .i64 W, .int .i64 H, .slice ao zs.length ca] 24) = U at *
      refine (HC.out _ HB.out).mono ?_
      rintro e w1 ⟨r, rfl, hr, hb1, hfr⟩
      have HR := hide hr
      obtain ⟨ro, rc, rfl, x1, x2⟩ := hr
      clear x1 x2
      obtain ⟨N, hN⟩ : ∃ N, (D : List Px).length = N := ⟨_, rfl⟩
      rw [hN] at HR hfr ⊢
      have HN := hide hN
      clear hN
      have t1 := al1 w1 (Obj.cells #[.int .i64 W, .int .i64 H, .slice ro N rc] 39)
      have hbx := bel_trans hb1 (bel_alloc w1 (Obj.cells #[.int .i64 W, .int .i64 H, .slice ro N rc] 39))
      have HR2 := hide (HR.out.alloc (Obj.cells #[.int .i64 W, .int .i64 H, .slice ro N rc] 39))
      have b1 := (hbx.block _ hl1).trans a1
      obtain ⟨p0, p1, p2⟩ := cells3 ((hbx.block _ hl2).trans a2)
      go_wp2_with (refine wpList_load_row rfl 75 _ rfl _ rfl _ _ _ _ b1 Try.underlying75 rfl (by kernel_rfl) ?_)
      clear p0 p1 p2 b1
      have hlt := (Array.getElem?_eq_some_iff.1 t1).1
      have HSZ := hide hb1.size
      generalize w1.alloc (Obj.cells #[.int .i64 W, .int .i64 H, .slice ro N rc] 39) = w2 at *
      have HB2 := hide (HB.out.trans (hbx.mono HB.out.size))
      refine (HE.out _ HB2.out).mono ?_
      rintro e w3 ⟨rfl, hb3⟩
      have t3 := al1 w3 (Obj.cells #[.int .i64 0, .int .i64 0, .slice none 0 0] 39)
      have hby := bel_trans hb3 (bel_alloc w3 (Obj.cells #[.int .i64 0, .int .i64 0, .slice none 0 0] 39))
      have g1 := (hby.block _ hlt).trans t1
      have HR4 := hide (HR2.out.below hby (Nat.le_refl _))
      have hbz := bel_trans hbx hby
      have HZ := hide hb3.size
      have HB4 := hide (HB.out.trans (hbz.mono HB.out.size))
      have b1 := (hbz.block _ hl1).trans a1
      obtain ⟨p0, p1, p2⟩ := cells3 ((hbz.block _ hl2).trans a2)
      go_wp2_with (refine wpList_load_row rfl 75 _ rfl _ rfl _ _ _ _ b1 Try.underlying75 rfl (by kernel_rfl) ?_)
      clear p0 p1 p2 b1
      have hl3 := (Array.getElem?_eq_some_iff.1 t3).1
      generalize w3.alloc (Obj.cells #[.int .i64 0, .int .i64 0, .slice none 0 0] 39) = w4 at *
      refine (HO.out _ HB4.out).mono ?_
      rintro e w5 ⟨s, rfl, hs, hb5, hfs⟩
      have HSX := hide hs
      obtain ⟨so, sc, rfl, x1, x2⟩ := hs
      clear x1 x2
      rw [HN.out] at HSX hfs ⊢
      have g3 := (hb5.block _ hl3).trans t3
      obtain ⟨z0, z1, z2⟩ := cells3 g3
      have f0 := Lib.frozen_of_heap g3 0
      have f1 := Lib.frozen_of_heap g3 1
      have f2 := Lib.frozen_of_heap g3 2
      have hlg := (Array.getElem?_eq_some_iff.1 g1).1
      have hBU5 := bel_trans hbz hb5
      have hz1 := HSZ.out
      have hz2 := HZ.out
      have hz3 := hb5.size
      obtain ⟨y1, y2, y3, y4⟩ := box3_set g3 (.int .i64 W) (.int .i64 H) (.slice so N sc) U (show U.heap.size ≤ w3.heap.size by omega) hBU5
      have HRB := hide (HSX.out.set3 hfs hl3 (.int .i64 W) (.int .i64 H) (.slice so N sc))
      have hne : w1.heap.size ≠ w3.heap.size := by omega
      replace g1 := (y2 w1.heap.size hne).trans ((hb5.block _ hlg).trans g1)
      have HRA := hide (pix_keep HR.out (HR4.out.below hb5 (Nat.le_refl _)) HN.out (show w1.heap.size ≤ w3.heap.size by omega) (.int .i64 W) (.int .i64 H) (.slice so N sc))
      have HBX := hide y4
      clear hne hz1 hz2 hz3
      go_upto_region 8 with fail
      clear z0 z1 z2 f0 f1 f2
      generalize ((w5.setCell ⟨w3.heap.size, 0, none⟩ (.int .i64 W)).setCell ⟨w3.heap.size, 1, none⟩ (.int .i64 H)).setCell ⟨w3.heap.size, 2, none⟩ (.slice so N sc) = X at *
      have g3 := y1
      clear y1 y2 y3 y4
      generalize w1.heap.size = QB at *
      generalize w3.heap.size = ZB at *
      have HBW := hide (HB.out.trans (HBX.out.mono HB.out.size))
      have k1 := (Array.getElem?_eq_some_iff.1 g1).1
      have k3 := (Array.getElem?_eq_some_iff.1 g3).1
      go_wp2_with fail
      refine (lineBegun_any _).mono ?_
      rintro e V0 ⟨rfl, hbv⟩
      obtain ⟨m0, m1, m2⟩ := cells3 ((hbv.block _ k1).trans g1)
      obtain ⟨n0, n1, n2⟩ := cells3 ((hbv.block _ k3).trans g3)
      go_wp2_with fail
      refine (samePictures_any W H _ D W H _ D _ (HRA.out.below hbv (Nat.le_refl _)) (HRB.out.below hbv (Nat.le_refl _))).mono ?_
      rintro e V3 ⟨rfl, hb9⟩
      rw [show sameB W H D W H D = true by simp [sameB]]
      go_wp2
      go_ret
      exact ⟨rfl, HBW.out.trans ((bel_trans hbv hb9).mono HBW.out.size)⟩
    · have hS : stripsE n W H zs rows = 3 := by rw [stripsE, if_pos hE, if_neg hr]
      have hd : decide (rows < 1) = true := by simp; omega
      rw [hS, show okW 3 W = 0 from rfl, show okW 3 H = 0 from rfl, show okL 3 (stripsL n W H zs rows) = [] from rfl] at HC
      rw [hE] at HE
      clear hE hS
      go_enter Try.func13, Try.ntmps13
      obtain ⟨p0, p1, p2⟩ := cells3 a2
      go_wp2_with (refine wpList_load_row rfl 75 _ rfl _ rfl _ _ _ _ a1 Try.underlying75 rfl (by kernel_rfl) ?_)
      clear p0 p1 p2
      generalize (w.alloc (Obj.cells (planA n (.slice lo n.spots.length lc) (.slice ko n.curve.length kc)) 75)).alloc (Obj.cells #[.int .i64 W, .int .i64 H, .slice ao zs.length ca] 24) = U at *
      refine (HC.out _ HB.out).mono ?_
      rintro e w1 ⟨r, rfl, hr, hb1, hfr⟩
      have HR := hide hr
      obtain ⟨ro, rc, rfl, x1, x2⟩ := hr
      clear x1 x2
      obtain ⟨N, hN⟩ : ∃ N, (([] : List Px) : List Px).length = N := ⟨_, rfl⟩
      rw [hN] at HR hfr ⊢
      have HN := hide hN
      clear hN
      have t1 := al1 w1 (Obj.cells #[.int .i64 0, .int .i64 0, .slice ro N rc] 39)
      have hbx := bel_trans hb1 (bel_alloc w1 (Obj.cells #[.int .i64 0, .int .i64 0, .slice ro N rc] 39))
      have HR2 := hide (HR.out.alloc (Obj.cells #[.int .i64 0, .int .i64 0, .slice ro N rc] 39))
      have b1 := (hbx.block _ hl1).trans a1
      obtain ⟨p0, p1, p2⟩ := cells3 ((hbx.block _ hl2).trans a2)
      go_wp2_with (refine wpList_load_row rfl 75 _ rfl _ rfl _ _ _ _ b1 Try.underlying75 rfl (by kernel_rfl) ?_)
      clear p0 p1 p2 b1
      have hlt := (Array.getElem?_eq_some_iff.1 t1).1
      have HSZ := hide hb1.size
      generalize w1.alloc (Obj.cells #[.int .i64 0, .int .i64 0, .slice ro N rc] 39) = w2 at *
      have HB2 := hide (HB.out.trans (hbx.mono HB.out.size))
      refine (HE.out _ HB2.out).mono ?_
      rintro e w3 ⟨rfl, hb3⟩
      have t3 := al1 w3 (Obj.cells #[.int .i64 0, .int .i64 0, .slice none 0 0] 39)
      have hby := bel_trans hb3 (bel_alloc w3 (Obj.cells #[.int .i64 0, .int .i64 0, .slice none 0 0] 39))
      have g1 := (hby.block _ hlt).trans t1
      have HR4 := hide (HR2.out.below hby (Nat.le_refl _))
      have hbz := bel_trans hbx hby
      have HZ := hide hb3.size
      obtain rfl : N = 0 := HN.out.symm
      have g3 := t3
      have HRA := HR4
      have HRB := hide (IsPix.nil (w3.alloc (Obj.cells #[.int .i64 0, .int .i64 0, .slice none 0 0] 39)))
      have HBX := hide hbz
      go_upto_region 8 with fail
      generalize w3.alloc (Obj.cells #[.int .i64 0, .int .i64 0, .slice none 0 0] 39) = X at *
      generalize w1.heap.size = QB at *
      generalize w3.heap.size = ZB at *
      have HBW := hide (HB.out.trans (HBX.out.mono HB.out.size))
      have k1 := (Array.getElem?_eq_some_iff.1 g1).1
      have k3 := (Array.getElem?_eq_some_iff.1 g3).1
      go_wp2_with fail
      refine (lineBegun_any _).mono ?_
      rintro e V0 ⟨rfl, hbv⟩
      obtain ⟨m0, m1, m2⟩ := cells3 ((hbv.block _ k1).trans g1)
      obtain ⟨n0, n1, n2⟩ := cells3 ((hbv.block _ k3).trans g3)
      go_wp2_with fail
      refine (samePictures_any 0 0 _ ([] : List Px) 0 0 _ ([] : List Px) _ (HRA.out.below hbv (Nat.le_refl _)) (HRB.out.below hbv (Nat.le_refl _))).mono ?_
      rintro e V3 ⟨rfl, hb9⟩
      rw [show sameB 0 0 ([] : List Px) 0 0 ([] : List Px) = true by simp [sameB]]
      go_wp2
      go_ret
      exact ⟨rfl, HBW.out.trans ((bel_trans hbv hb9).mono HBW.out.size)⟩
  · have hS : stripsE n W H zs rows = fitsE n W H zs H := by rw [stripsE, if_neg hE]
    rw [hS, okW, if_neg hE, okW, if_neg hE, okL, if_neg hE] at HC
    clear hS
    generalize fitsE n W H zs H = E at *
    have hd : decide (E = 0) = false := decide_eq_false hE
    have hn : (E == 0) = false := by simpa using hE
    go_enter Try.func13, Try.ntmps13
    obtain ⟨p0, p1, p2⟩ := cells3 a2
    go_wp2_with (refine wpList_load_row rfl 75 _ rfl _ rfl _ _ _ _ a1 Try.underlying75 rfl (by kernel_rfl) ?_)
    clear p0 p1 p2
    generalize (w.alloc (Obj.cells (planA n (.slice lo n.spots.length lc) (.slice ko n.curve.length kc)) 75)).alloc (Obj.cells #[.int .i64 W, .int .i64 H, .slice ao zs.length ca] 24) = U at *
    refine (HC.out _ HB.out).mono ?_
    rintro e w1 ⟨r, rfl, hr, hb1, hfr⟩
    have HR := hide hr
    obtain ⟨ro, rc, rfl, x1, x2⟩ := hr
    clear x1 x2
    obtain ⟨N, hN⟩ : ∃ N, (([] : List Px) : List Px).length = N := ⟨_, rfl⟩
    rw [hN] at HR hfr ⊢
    have HN := hide hN
    clear hN
    have t1 := al1 w1 (Obj.cells #[.int .i64 0, .int .i64 0, .slice ro N rc] 39)
    have hbx := bel_trans hb1 (bel_alloc w1 (Obj.cells #[.int .i64 0, .int .i64 0, .slice ro N rc] 39))
    have HR2 := hide (HR.out.alloc (Obj.cells #[.int .i64 0, .int .i64 0, .slice ro N rc] 39))
    have b1 := (hbx.block _ hl1).trans a1
    obtain ⟨p0, p1, p2⟩ := cells3 ((hbx.block _ hl2).trans a2)
    go_wp2_with (refine wpList_load_row rfl 75 _ rfl _ rfl _ _ _ _ b1 Try.underlying75 rfl (by kernel_rfl) ?_)
    clear p0 p1 p2 b1
    have hlt := (Array.getElem?_eq_some_iff.1 t1).1
    have HSZ := hide hb1.size
    generalize w1.alloc (Obj.cells #[.int .i64 0, .int .i64 0, .slice ro N rc] 39) = w2 at *
    have HB2 := hide (HB.out.trans (hbx.mono HB.out.size))
    refine (HE.out _ HB2.out).mono ?_
    rintro e w3 ⟨rfl, hb3⟩
    have t3 := al1 w3 (Obj.cells #[.int .i64 0, .int .i64 0, .slice none 0 0] 39)
    have hby := bel_trans hb3 (bel_alloc w3 (Obj.cells #[.int .i64 0, .int .i64 0, .slice none 0 0] 39))
    have g1 := (hby.block _ hlt).trans t1
    have HR4 := hide (HR2.out.below hby (Nat.le_refl _))
    have hbz := bel_trans hbx hby
    have HZ := hide hb3.size
    obtain rfl : N = 0 := HN.out.symm
    have g3 := t3
    have HRA := HR4
    have HRB := hide (IsPix.nil (w3.alloc (Obj.cells #[.int .i64 0, .int .i64 0, .slice none 0 0] 39)))
    have HBX := hide hbz
    go_upto_region 8 with fail
    generalize w3.alloc (Obj.cells #[.int .i64 0, .int .i64 0, .slice none 0 0] 39) = X at *
    generalize w1.heap.size = QB at *
    generalize w3.heap.size = ZB at *
    have HBW := hide (HB.out.trans (HBX.out.mono HB.out.size))
    have k1 := (Array.getElem?_eq_some_iff.1 g1).1
    have k3 := (Array.getElem?_eq_some_iff.1 g3).1
    go_wp2_with fail
    refine (lineBegun_any _).mono ?_
    rintro e V0 ⟨rfl, hbv⟩
    obtain ⟨m0, m1, m2⟩ := cells3 ((hbv.block _ k1).trans g1)
    obtain ⟨n0, n1, n2⟩ := cells3 ((hbv.block _ k3).trans g3)
    go_wp2_with fail
    refine (samePictures_any 0 0 _ ([] : List Px) 0 0 _ ([] : List Px) _ (HRA.out.below hbv (Nat.le_refl _)) (HRB.out.below hbv (Nat.le_refl _))).mono ?_
    rintro e V3 ⟨rfl, hb9⟩
    rw [show sameB 0 0 ([] : List Px) 0 0 ([] : List Px) = true by simp [sameB]]
    go_wp2
    go_ret
    exact ⟨rfl, HBW.out.trans ((bel_trans hbv hb9).mono HBW.out.size)⟩
end Go.Proofs.Ytolcndchfnifhab
