/- sensorgains: part 6 of what its proof needs. -/
import Derived.Test.YtolcndchfnifhabM2Sensorgains
import Derived.Test.YtolcndchfnifhabM3Sensorgains
import Derived.Test.YtolcndchfnifhabM4Sensorgains
/- grid: the eight places around one, as the loop over a function gets them. -/
namespace Go.Proofs.Ytolcndchfnifhab
open Go.RowKit Go.Shelf

attribute [local go_sem] Oper.semAt_some

/-- the number, of nine, of the k-th of the eight; and back. -/
def nOf (k : Nat) : Nat := if k < 4 then k else k + 1
def posOf (n : Nat) : Nat := if n ≤ 4 then n else n - 1
theorem posOf_succ (n : Nat) (h : n ≠ 4) : posOf (n + 1) = posOf n + 1 := by unfold posOf; split <;> split <;> omega
theorem nOf_posOf (n : Nat) (h : n ≠ 4) : nOf (posOf n) = n := by unfold nOf posOf; split <;> split <;> omega
theorem posOf_lt (n : Nat) (h : n < 9) : posOf n < 8 := by unfold posOf; split <;> omega

theorem around_in (F : Fence) (n : Nat) (hf : F.fn 110) (hro : F.round = none) (X Y : Int) (w : World) :
    CallsIn F n Try.prog 110 #[.agg #[.int .i64 X, .int .i64 Y]] w fun e w' => e = .returned (.func (.func 119) #[] #[.pointer (some ⟨w.heap.size, 0, none⟩)]) ∧ w' = w.alloc (.cells #[.int .i64 X, .int .i64 Y] 93) := by
  refine callsIn_of_wp Try.func110 rfl hf ?_ hro
  simp only [Try.ntmps110, List.size_toArray, List.length_cons, List.length_nil, Nat.reduceAdd, Nat.reduceSub, Array.replicate_succ, Array.replicate_zero, List.push_toArray, List.append_toArray, List.nil_append, List.cons_append]
  gi_wp2
  go_ret
  exact ⟨rfl, rfl⟩

set_option maxRecDepth 100000 in
set_option maxHeartbeats 1600000 in
theorem around1_in (F : Fence) (n : Nat) (hf : F.fn 119) (hro : F.round = none) (hn : 1 ≤ n) (l Bs X Y : Nat) (hX : X ≤ 64) (hY0 : Y ≤ 64) (J Jx : List (Fin 8) → World → Prop) (hJa : ∀ s W o, J s W → J s (W.alloc o))
    (hY : ∀ pre (x : Fin 8) V, J pre V → pre.length < 8 → YieldAt F (n - 1) Try.prog l #[.agg #[.int .i64 ((X : Int) - 1 + (nOf x.1 % 3 : Nat)), .int .i64 ((Y : Int) - 1 + (nOf x.1 / 3 : Nat))]] V fun e V' =>
      (e = .returned (.bool true) ∧ J (pre ++ [x]) V' ∧ KeepB Bs V V') ∨ (e = .returned (.bool false) ∧ Jx (pre ++ [x]) V'))
    (V : World) (hc0 : V.cell? ⟨Bs, 0, none⟩ = some (.int .i64 X)) (hc1 : V.cell? ⟨Bs, 1, none⟩ = some (.int .i64 Y)) (h0 : J [] V) :
    CallsIn F n Try.prog 119 #[.func (.yield l) #[] #[], .pointer (some ⟨Bs, 0, none⟩)] V fun e V' => (∃ v, e = .returned v) ∧
      ((∃ ys, ys = List.finRange 8 ∧ J ys V') ∨ (∃ pre, pre <+: List.finRange 8 ∧ Jx pre V')) := by
  refine callsIn_of_wp Try.func119 rfl hf ?_ hro
  simp only [Try.ntmps119, List.size_toArray, List.length_cons, List.length_nil, Nat.reduceAdd, Nat.reduceSub, Array.replicate_succ, Array.replicate_zero, List.push_toArray, List.append_toArray, List.nil_append, List.cons_append]
  gi_wp2
  gi_loopw [3] (fun i wr => ∃ (b : Nat) (yb : Int), b ≤ 3 ∧ Hid (yb = (Y : Int) - 1 + (b : Nat)) ∧ i = .int .i64 yb ∧ J (idx 8 (posOf (3 * b))) wr ∧ wr.cell? ⟨Bs, 0, none⟩ = some (.int .i64 X) ∧ wr.cell? ⟨Bs, 1, none⟩ = some (.int .i64 Y)) (fun i _ => ((Y : Int) + 2 - intOf i).toNat)
  case atStart => exact ⟨0, (Y : Int) - 1, by omega, hide (by simp), rfl, h0, hc0, hc1⟩
  case round =>
    obtain ⟨b, yb, hb, HYB, rfl, hJ, c0, c1⟩ := hrel
    clear hc0 hc1 h0
    by_cases hlt : b < 3
    · have hd : decide (yb ≤ (Y : Int) + 1) = true := by have := HYB.out; simp; omega
      have hyb0 : -1 ≤ yb ∧ yb ≤ 66 := by have := HYB.out; omega
      obtain ⟨hyb0, hyb1⟩ := hyb0
      gi_wp2
      gi_loopw [4] (fun i wr => ∃ (a : Nat) (xa : Int), a ≤ 3 ∧ Hid (xa = (X : Int) - 1 + (a : Nat)) ∧ i = .int .i64 xa ∧ J (idx 8 (posOf (3 * b + a))) wr ∧ wr.cell? ⟨Bs, 0, none⟩ = some (.int .i64 X) ∧ wr.cell? ⟨Bs, 1, none⟩ = some (.int .i64 Y)) (fun i _ => ((X : Int) + 2 - intOf i).toNat)
      case atStart => exact ⟨0, (X : Int) - 1, by omega, hide (by simp), rfl, hJ, c0, c1⟩
      case round =>
        clear hJ c0 c1
        obtain ⟨a, xa, ha, HXA, rfl, hJ, c0, c1⟩ := hrel
        have hbs : Bs < wr.heap.size := World.block_lt_of_cell? wr _ c0
        have hxa0 : -1 ≤ xa ∧ xa ≤ 66 := by have := HXA.out; omega
        obtain ⟨hxa0, hxa1⟩ := hxa0
        by_cases hal : a < 3
        · have hd2 : decide (xa ≤ (X : Int) + 1) = true := by have := HXA.out; simp; omega
          have k0 := (World.cell?_of_block (a := ⟨Bs, 0, none⟩) (Below.heap_alloc wr (Obj.cells #[.int .i64 xa, .int .i64 yb] 93) Bs hbs)).trans c0
          have k1 := (World.cell?_of_block (a := ⟨Bs, 1, none⟩) (Below.heap_alloc wr (Obj.cells #[.int .i64 xa, .int .i64 yb] 93) Bs hbs)).trans c1
          have HNX := hide (show xa + 1 = (X : Int) - 1 + ((a + 1 : Nat) : Int) by have := HXA.out; omega)
          have hms : ((X : Int) + 2 - (xa + 1)).toNat < ((X : Int) + 2 - xa).toNat := by have := HXA.out; omega
          by_cases hcen : a = 1 ∧ b = 1
          · obtain rfl : xa = (X : Int) := by have := HXA.out; omega
            obtain rfl : yb = (Y : Int) := by have := HYB.out; omega
            have HP := hide (show posOf (3 * b + (a + 1)) = posOf (3 * b + a) by rw [hcen.1, hcen.2]; rfl)
            clear hcen
            gi_wp2
            refine ⟨fun _ h => (by cases h), ?_⟩
            gi_wp2
            go_roundw
            case rel => exact ⟨a + 1, _, by omega, HNX, rfl, by rw [HP.out]; exact hJa _ _ _ hJ, k0, k1⟩
            case measure => simpa [intOf] using hms
          · have hn4 : 3 * b + a ≠ 4 := by omega
            have hplt := posOf_lt (3 * b + a) (by omega)
            have hYx := hY (idx 8 (posOf (3 * b + a))) ⟨posOf (3 * b + a), hplt⟩ (wr.alloc (Obj.cells #[.int .i64 xa, .int .i64 yb] 93)) (hJa _ _ _ hJ) (by rw [idx_length _ _ (Nat.le_of_lt hplt)]; exact hplt)
            simp only [nOf_posOf (3 * b + a) hn4, show (3 * b + a) % 3 = a by omega, show (3 * b + a) / 3 = b by omega] at hYx
            rw [← HXA.out, ← HYB.out] at hYx
            obtain ⟨fn, tmps, assign, body, hy', hR⟩ := hYx
            have HSP := hide (show idx 8 (posOf (3 * b + (a + 1))) = idx 8 (posOf (3 * b + a)) ++ [⟨posOf (3 * b + a), hplt⟩] by
              rw [← idx_succ 8 _ hplt, ← posOf_succ _ hn4]; rfl)
            have HPR := hide (show idx 8 (posOf (3 * b + a)) ++ [⟨posOf (3 * b + a), hplt⟩] <+: List.finRange 8 by
              rw [← idx_succ 8 _ hplt]; exact idx_prefix 8 _)
            have hor : (¬ xa = (X : Int)) ∨ (xa = (X : Int) ∧ ¬ yb = (Y : Int)) := by have := HXA.out; have := HYB.out; omega
            clear hn4
            rcases hor with hxa | ⟨hxa, hyb⟩
            · gi_wp2
              refine hR.mono ?_
              rintro e V3 (⟨rfl, hJ3, hk3⟩ | ⟨rfl, hJx3⟩)
              · have c3 := (World.cell?_of_block (a := ⟨Bs, 0, none⟩) hk3).trans k0
                have c4 := (World.cell?_of_block (a := ⟨Bs, 1, none⟩) hk3).trans k1
                rw [← HSP.out] at hJ3
                gi_wp2
                go_roundw
                case rel => exact ⟨a + 1, _, by omega, HNX, rfl, hJ3, c3, c4⟩
                case measure => simpa [intOf] using hms
              · gi_wp2
                refine bodyPost_ret (results_none rfl _ _ _) rfl ?_
                exact ⟨⟨_, rfl⟩, .inr ⟨_, HPR.out, hJx3⟩⟩
            · subst hxa
              gi_wp2
              refine hR.mono ?_
              rintro e V3 (⟨rfl, hJ3, hk3⟩ | ⟨rfl, hJx3⟩)
              · have c3 := (World.cell?_of_block (a := ⟨Bs, 0, none⟩) hk3).trans k0
                have c4 := (World.cell?_of_block (a := ⟨Bs, 1, none⟩) hk3).trans k1
                rw [← HSP.out] at hJ3
                gi_wp2
                go_roundw
                case rel => exact ⟨a + 1, _, by omega, HNX, rfl, hJ3, c3, c4⟩
                case measure => simpa [intOf] using hms
              · gi_wp2
                refine bodyPost_ret (results_none rfl _ _ _) rfl ?_
                exact ⟨⟨_, rfl⟩, .inr ⟨_, HPR.out, hJx3⟩⟩
        · have hd2 : decide (xa ≤ (X : Int) + 1) = false := by have := HXA.out; simp; omega
          obtain rfl : a = 3 := by omega
          have HNY := hide (show yb + 1 = (Y : Int) - 1 + ((b + 1 : Nat) : Int) by have := HYB.out; omega)
          have hms : ((Y : Int) + 2 - (yb + 1)).toNat < ((Y : Int) + 2 - yb).toNat := by have := HYB.out; omega
          gi_wp2
          go_roundw
          case rel => exact ⟨b + 1, _, by omega, HNY, rfl, hJ, c0, c1⟩
          case measure => simpa [intOf] using hms
    · obtain rfl : b = 3 := by omega
      have hd : decide (yb ≤ (Y : Int) + 1) = false := by have := HYB.out; simp; omega
      gi_wp2
      go_end0
      exact ⟨⟨_, rfl⟩, .inl ⟨_, by rw [← idx_all]; rfl, hJ⟩⟩

theorem around_stops (F : Fence) (n : Nat) (hf : F.fn 119) (hro : F.round = none) (hn : 1 ≤ n) (Bs X Y : Nat) (hX : X ≤ 64) (hY0 : Y ≤ 64) (w : World) (hBw : Bs < w.heap.size)
    (hc0 : w.cell? ⟨Bs, 0, none⟩ = some (.int .i64 X)) (hc1 : w.cell? ⟨Bs, 1, none⟩ = some (.int .i64 Y)) :
    SeqStopsK F n Try.prog 119 #[.pointer (some ⟨Bs, 0, none⟩)] (fun x : Fin 8 => #[Value.agg #[.int .i64 ((X : Int) - 1 + (nOf x.1 % 3 : Nat)), .int .i64 ((Y : Int) - 1 + (nOf x.1 / 3 : Nat))]]) (KeepB Bs) (fun ys => ys = List.finRange 8) (fun pre => pre <+: List.finRange 8) 8 w := fun l J Jx V hV hJ _ hY h0 =>
  around1_in F n hf hro hn l Bs X Y hX hY0 J Jx (fun s W o h => hJ s W (W.alloc o) none h (World.grownBy_alloc W o none) (fun r e => by cases e)) hY V ((hV.cell (p := ⟨Bs, 0, none⟩) hBw).trans hc0) ((hV.cell (p := ⟨Bs, 1, none⟩) hBw).trans hc1) h0

end Go.Proofs.Ytolcndchfnifhab

/- mosaic: colourOf, part. -/
namespace Go.Proofs.Ytolcndchfnifhab
set_option linter.unusedVariables false
open Go.RowKit

theorem beq_cast (q c : Nat) : ((q : Int) == (c : Int)) = decide (q = c) := by
  by_cases h : q = c
  · simp [h]
  · rw [decide_eq_false h]; simpa using fun e : (q : Int) = c => h (by omega)

theorem colourOf_any (p X Y : Nat) (hp : p ≤ 3) (w : World) : Calls Try.prog 70 #[.int .i64 p, .agg #[.int .i64 X, .int .i64 Y]] w fun e w' => e = .returned (.int .i64 (colV p X Y : Nat)) ∧ Below w.heap.size w w' := by
  go_enter Try.func70, Try.ntmps70
  go_wp2_with fail
  refine (colour_ok p X Y hp _).mono ?_
  rintro e w1 ⟨rfl, hb1⟩
  go_wp2
  go_ret
  exact ⟨rfl, bel_trans (bel_alloc _ _) hb1⟩

set_option maxRecDepth 100000 in
set_option maxHeartbeats 800000 in
theorem part1_any (p X Y c Bp Bc : Nat) (hp : p ≤ 3) (w : World) (hBp : Bp < w.heap.size) (hBc : Bc < w.heap.size) (k1 : w.cell? ⟨Bp, 0, none⟩ = some (.int .i64 p)) (k2 : w.cell? ⟨Bc, 0, none⟩ = some (.int .i64 c)) :
    Calls Try.prog 111 #[.agg #[.int .i64 X, .int .i64 Y], .pointer (some ⟨Bp, 0, none⟩), .pointer (some ⟨Bc, 0, none⟩)] w fun e w' => e = .returned (.bool (decide (colV p X Y = c))) ∧ Below w.heap.size w w' := by
  have HCO := hide (fun v => colourOf_any p X Y hp v)
  obtain ⟨q, hq⟩ : ∃ q, colV p X Y = q := ⟨_, rfl⟩
  rw [hq] at HCO ⊢
  clear hq
  have HB := hide (bel_alloc w (Obj.cells #[.int .i64 X, .int .i64 Y] 93))
  have b3 := al1 w (Obj.cells #[.int .i64 X, .int .i64 Y] 93)
  have HE := hide (beq_cast q c)
  go_enter Try.func111, Try.ntmps111
  go_wp2_with fail
  have hl3 := (Array.getElem?_eq_some_iff.1 b3).1
  generalize w.alloc (Obj.cells #[.int .i64 X, .int .i64 Y] 93) = U at *
  have HS := hide (show ∀ v, Below U.heap.size U v → v.cell? ⟨Bp, 0, none⟩ = some (.int .i64 p) ∧ v.cell? ⟨Bc, 0, none⟩ = some (.int .i64 c) ∧ v.cell? ⟨w.heap.size, 0, none⟩ = some (.int .i64 X) ∧ v.cell? ⟨w.heap.size, 1, none⟩ = some (.int .i64 Y) from fun v h => by
    have hw := HB.out.trans (h.mono HB.out.size)
    have t := (h.block _ hl3).trans b3
    exact ⟨(hw.cell (p := ⟨Bp, 0, none⟩) hBp).trans k1, (hw.cell (p := ⟨Bc, 0, none⟩) hBc).trans k2, by rw [Lib.cell_of_heap t]; rfl, by rw [Lib.cell_of_heap t]; rfl⟩)
  have hWd : Below U.heap.size U U.drew := (Below.refl _ _).drew
  have hSd := HS.out _ hWd
  have hmx : Try.prog.follows .mixedOrders = true := by kernel_rfl
  refine wp_region_last (S := fun v : World => v.cell? ⟨Bp, 0, none⟩ = some (.int .i64 p) ∧ v.cell? ⟨Bc, 0, none⟩ = some (.int .i64 c) ∧ v.cell? ⟨w.heap.size, 0, none⟩ = some (.int .i64 X) ∧ v.cell? ⟨w.heap.size, 1, none⟩ = some (.int .i64 Y)) (f := 5) hmx ?_
  show wpAnyF _ _ _ _ _ _ 6 _ _ U.drew
  refine wpAnyF_take (i := 0) (oi := _) (v := ?vv1) rfl (by kernel_rfl) (by kernel_rfl) (by kernel_rfl) (by kernel_rfl) (by kernel_rfl) (fun _ _ _ h => h) (Or.inl ⟨by rfl, ?yy1⟩) hSd ?rr1
  case yy1 => (intro wq hSq; obtain ⟨_, _, _, _⟩ := hSq; go_simp <;> with_reducible rfl)
  try simp only [Act.put]
  refine wpAnyF_take (i := 1) (oi := _) (v := ?vv2) rfl (by kernel_rfl) (by kernel_rfl) (by kernel_rfl) (by kernel_rfl) (by kernel_rfl) (fun _ _ _ h => h) (Or.inl ⟨by rfl, ?yy2⟩) hSd ?rr2
  case yy2 => (intro wq hSq; obtain ⟨_, _, _, _⟩ := hSq; go_simp <;> with_reducible rfl)
  try simp only [Act.put]
  refine wpAnyF_take (i := 3) (oi := _) (v := ?vv3) rfl (by kernel_rfl) (by kernel_rfl) (by kernel_rfl) (by kernel_rfl) (by kernel_rfl) (fun _ _ _ h => h) (Or.inl ⟨by rfl, ?yy3⟩) hSd ?rr3
  case yy3 => (intro wq hSq; obtain ⟨_, _, _, _⟩ := hSq; go_simp <;> with_reducible rfl)
  try simp only [Act.put]
  refine wpAnyF_one (i := 2) (o := _) (by kernel_rfl) rfl (fun K' hK => ?_)
  rw [if_pos (by rfl)]
  go_simp
  refine (HCO.out _).mono ?_
  rintro e V1 ⟨rfl, hbv⟩
  have hB1 : Below U.heap.size U V1 := hWd.trans (hbv.mono hWd.size)
  have hSd := HS.out _ hB1
  refine hK.out _ _ hSd ?_
  clear hK
  try simp only [Act.put]
  refine wpAnyF_take (i := 4) (oi := _) (v := ?vv4) rfl (by kernel_rfl) (by kernel_rfl) (by kernel_rfl) (by kernel_rfl) (by kernel_rfl) (fun _ _ _ h => h) (Or.inl ⟨by rfl, ?yy4⟩) hSd ?rr4
  case yy4 => (intro wq hSq; obtain ⟨_, _, _, _⟩ := hSq; go_simp <;> with_reducible rfl)
  try simp only [Act.put]
  refine wpAnyF_last (o := _) (by kernel_rfl) rfl (fun K' hK => ?_)
  rw [if_pos (by rfl)]
  go_simp
  refine hK.out _ _ ?_
  clear hK
  refine wpAnyF_done (by kernel_rfl) ?_ _
  try simp only [Act.put]
  go_wp2
  go_ret
  exact ⟨ret_bool HE.out, HB.out.trans (hB1.mono HB.out.size)⟩

/-- how much of a colour a place has. -/
def parX (X : Nat) (x : Fin 8) : Int := (X : Int) - 1 + (nOf x.1 % 3 : Nat)
def parY (Y : Nat) (x : Fin 8) : Int := (Y : Int) - 1 + (nOf x.1 / 3 : Nat)
def parC (p X Y c : Nat) (x : Fin 8) : Bool := decide (colV p (parX X x).toNat (parY Y x).toNat = c)
def partV (zs : List Int) (W H p X Y c : Nat) : Int := if colV p X Y = c then zAt zs (Y * W + X) else meanV zs W H (parX X) (parY Y) (parC p X Y c)

set_option maxRecDepth 100000 in
set_option maxHeartbeats 3200000 in
theorem part_any (W H p X Y c bk off ca : Nat) (hW1 : 1 ≤ W) (hW : W ≤ 64) (hH1 : 1 ≤ H) (hH : H ≤ 64) (hp : p ≤ 3) (hX : X < W) (hY : Y < H) (zs : List Int) (hlen : zs.length = H * W) (hzs : allIn 0 65535 zs = true) (w : World) (hbk : bk < w.heap.size) (hcell : ∀ j, j < zs.length → w.cell? ⟨bk, off + j, none⟩ = some (.int .i64 (zAt zs j))) :
    Calls Try.prog 67 #[.agg #[.int .i64 W, .int .i64 H, .slice (some ⟨bk, off, none⟩) zs.length ca], .int .i64 p, .agg #[.int .i64 X, .int .i64 Y], .int .i64 c] w fun e w' => e = .returned (.int .i64 (partV zs W H p X Y c)) ∧ Below w.heap.size w w' := by
  have HPV := hide (show partV zs W H p X Y c = if colV p X Y = c then zAt zs (Y * W + X) else meanV zs W H (parX X) (parY Y) (parC p X Y c) from rfl)
  generalize partV zs W H p X Y c = RES at *
  have hl4 : zs.length ≤ 4096 := by rw [hlen]; exact Nat.le_trans (Nat.mul_le_mul hH hW) (by decide)
  have hkl : Y * W + X < zs.length := by
    have h1 : (Y + 1) * W ≤ H * W := Nat.mul_le_mul_right _ hY
    rw [Nat.succ_mul] at h1
    rw [hlen]; omega
  have HC := hide hcell
  have HCO := hide (fun v => colourOf_any p X Y hp v)
  obtain ⟨a1, a2, a3, a4⟩ := al4 w (Obj.cells #[.int .i64 W, .int .i64 H, .slice (some ⟨bk, off, none⟩) zs.length ca] 24) (Obj.cells #[.int .i64 p] 3) (Obj.cells #[.int .i64 X, .int .i64 Y] 93) (Obj.cells #[.int .i64 c] 3)
  have HB := hide (be4 w (Obj.cells #[.int .i64 W, .int .i64 H, .slice (some ⟨bk, off, none⟩) zs.length ca] 24) (Obj.cells #[.int .i64 p] 3) (Obj.cells #[.int .i64 X, .int .i64 Y] 93) (Obj.cells #[.int .i64 c] 3))
  have HMP := hide (fun (u : World) (hu : Below w.heap.size w u) (Bs : Nat) (hBs : Bs < u.heap.size) (e0 : u.cell? ⟨Bs, 0, none⟩ = some (.int .i64 X)) (e1 : u.cell? ⟨Bs, 1, none⟩ = some (.int .i64 Y)) (hp1 : w.heap.size + 1 < u.heap.size) (hp3 : w.heap.size + 3 < u.heap.size) (k1 : u.cell? ⟨w.heap.size + 1, 0, none⟩ = some (.int .i64 p)) (k2 : u.cell? ⟨w.heap.size + 3, 0, none⟩ = some (.int .i64 c)) =>
    mean_any 8 W H bk off ca (by omega) hW1 hW hH1 hH zs hlen hzs 119 111 Bs #[.pointer (some ⟨Bs, 0, none⟩)] #[.pointer (some ⟨w.heap.size + 1, 0, none⟩), .pointer (some ⟨w.heap.size + 3, 0, none⟩)] (parX X) (parY Y) (parC p X Y c) u (enters_of Try.func119 (by kernel_rfl) rfl) (enters_of Try.func111 (by kernel_rfl) rfl) hBs (Nat.lt_of_lt_of_le hbk hu.size) (fun j hj => (hu.cell (p := ⟨bk, off + j, none⟩) hbk).trans (hcell j hj))
      (fun V hV => around_stops Fence.wide (3 - 1) trivial rfl (by omega) Bs X Y (by omega) (by omega) V (Nat.lt_of_lt_of_le hBs hV.size) ((hV.cell (p := ⟨Bs, 0, none⟩) hBs).trans e0) ((hV.cell (p := ⟨Bs, 1, none⟩) hBs).trans e1))
      (fun x V hh hV => by
        have hh2 : 0 ≤ parX X x ∧ parX X x < W ∧ 0 ≤ parY Y x ∧ parY Y x < H := by simpa [hasB] using hh
        have h := part1_any p (parX X x).toNat (parY Y x).toNat c (w.heap.size + 1) (w.heap.size + 3) hp V (Nat.lt_of_lt_of_le hp1 hV.size) (Nat.lt_of_lt_of_le hp3 hV.size) ((hV.cell (p := ⟨w.heap.size + 1, 0, none⟩) hp1).trans k1) ((hV.cell (p := ⟨w.heap.size + 3, 0, none⟩) hp3).trans k2)
        rw [Int.toNat_of_nonneg hh2.1, Int.toNat_of_nonneg hh2.2.2.1] at h
        exact h))
  obtain ⟨K1, hK1⟩ : ∃ K1, Y * W + X = K1 := ⟨_, rfl⟩
  rw [hK1] at HPV hkl
  have HIX := hide (fun v => index_any W H X Y W K1 rfl hK1 (by omega) v)
  have hcz := hcell K1 hkl
  obtain ⟨z, hz0⟩ : ∃ z, zAt zs K1 = z := ⟨_, rfl⟩
  rw [hz0] at hcz HPV
  clear hz0 hK1 hcell hlen hzs
  obtain ⟨q, hq⟩ : ∃ q, colV p X Y = q := ⟨_, rfl⟩
  rw [hq] at HCO HPV
  clear hq
  go_enter Try.func67, Try.ntmps67
  go_wp2_with fail
  have hs4 : ((((w.alloc (Obj.cells #[.int .i64 W, .int .i64 H, .slice (some ⟨bk, off, none⟩) zs.length ca] 24)).alloc (Obj.cells #[.int .i64 p] 3)).alloc (Obj.cells #[.int .i64 X, .int .i64 Y] 93)).alloc (Obj.cells #[.int .i64 c] 3)).heap.size = w.heap.size + 4 := by simp
  generalize (((w.alloc (Obj.cells #[.int .i64 W, .int .i64 H, .slice (some ⟨bk, off, none⟩) zs.length ca] 24)).alloc (Obj.cells #[.int .i64 p] 3)).alloc (Obj.cells #[.int .i64 X, .int .i64 Y] 93)).alloc (Obj.cells #[.int .i64 c] 3) = U at *
  replace hs4 := Nat.le_of_eq hs4.symm
  have HS := hide (show ∀ v, Below U.heap.size U v → v.cell? ⟨w.heap.size, 0, none⟩ = some (.int .i64 W) ∧ v.cell? ⟨w.heap.size, 1, none⟩ = some (.int .i64 H) ∧ v.cell? ⟨w.heap.size, 2, none⟩ = some (.slice (some ⟨bk, off, none⟩) zs.length ca) ∧ v.cell? ⟨w.heap.size + 1, 0, none⟩ = some (.int .i64 p) ∧ v.cell? ⟨w.heap.size + 1 + 1, 0, none⟩ = some (.int .i64 X) ∧ v.cell? ⟨w.heap.size + 1 + 1, 1, none⟩ = some (.int .i64 Y) ∧ v.cell? ⟨w.heap.size + 1 + 1 + 1, 0, none⟩ = some (.int .i64 c) ∧ v.cell? ⟨bk, off + K1, none⟩ = some (.int .i64 z) from fun v h => by
    have hw := HB.out.trans (h.mono HB.out.size)
    obtain ⟨t0, t1, t2⟩ := cells3 ((h.block _ (by omega)).trans a1)
    have t3 := (h.block (w.heap.size + 2) (by omega)).trans a3
    exact ⟨t0, t1, t2, by rw [Lib.cell_of_heap ((h.block (w.heap.size + 1) (by omega)).trans a2)]; rfl, by rw [Lib.cell_of_heap (b := w.heap.size + 1 + 1) t3]; rfl, by rw [Lib.cell_of_heap (b := w.heap.size + 1 + 1) t3]; rfl, by rw [Lib.cell_of_heap (b := w.heap.size + 1 + 1 + 1) ((h.block (w.heap.size + 3) (by omega)).trans a4)]; rfl, (hw.cell (p := ⟨bk, off + K1, none⟩) hbk).trans hcz⟩)
  have hWd : Below U.heap.size U U.drew := (Below.refl _ _).drew
  have hSd := HS.out _ hWd
  have hklI : (K1 : Int) < (zs.length : Int) := by omega
  clear a1 a2 a3 a4 hcz
  have hmx : Try.prog.follows .mixedOrders = true := by kernel_rfl
  refine wp_region_last (S := fun v : World => v.cell? ⟨w.heap.size, 0, none⟩ = some (.int .i64 W) ∧ v.cell? ⟨w.heap.size, 1, none⟩ = some (.int .i64 H) ∧ v.cell? ⟨w.heap.size, 2, none⟩ = some (.slice (some ⟨bk, off, none⟩) zs.length ca) ∧ v.cell? ⟨w.heap.size + 1, 0, none⟩ = some (.int .i64 p) ∧ v.cell? ⟨w.heap.size + 1 + 1, 0, none⟩ = some (.int .i64 X) ∧ v.cell? ⟨w.heap.size + 1 + 1, 1, none⟩ = some (.int .i64 Y) ∧ v.cell? ⟨w.heap.size + 1 + 1 + 1, 0, none⟩ = some (.int .i64 c) ∧ v.cell? ⟨bk, off + K1, none⟩ = some (.int .i64 z)) (f := 4) hmx ?_
  show wpAnyF _ _ _ _ _ _ 5 _ _ U.drew
  refine wpAnyF_take (i := 0) (oi := _) (v := ?vv5) rfl (by kernel_rfl) (by kernel_rfl) (by kernel_rfl) (by kernel_rfl) (by kernel_rfl) (fun _ _ _ h => h) (Or.inl ⟨by rfl, ?yy5⟩) hSd ?rr5
  case yy5 => (intro wq hSq; obtain ⟨_, _, _, _, _, _, _, _⟩ := hSq; go_simp <;> with_reducible rfl)
  try simp only [Act.put]
  refine wpAnyF_take (i := 1) (oi := _) (v := ?vv6) rfl (by kernel_rfl) (by kernel_rfl) (by kernel_rfl) (by kernel_rfl) (by kernel_rfl) (fun _ _ _ h => h) (Or.inl ⟨by rfl, ?yy6⟩) hSd ?rr6
  case yy6 => (intro wq hSq; obtain ⟨_, _, _, _, _, _, _, _⟩ := hSq; go_simp <;> with_reducible rfl)
  try simp only [Act.put]
  refine wpAnyF_take (i := 3) (oi := _) (v := ?vv7) rfl (by kernel_rfl) (by kernel_rfl) (by kernel_rfl) (by kernel_rfl) (by kernel_rfl) (fun _ _ _ h => h) (Or.inl ⟨by rfl, ?yy7⟩) hSd ?rr7
  case yy7 => (intro wq hSq; obtain ⟨_, _, _, _, _, _, _, _⟩ := hSq; go_simp <;> with_reducible rfl)
  try simp only [Act.put]
  refine wpAnyF_one (i := 2) (o := _) (by kernel_rfl) rfl (fun K' hK => ?_)
  rw [if_pos (by rfl)]
  go_simp
  refine (HCO.out _).mono ?_
  rintro e V1 ⟨rfl, hbv⟩
  have hB1 : Below U.heap.size U V1 := hWd.trans (hbv.mono hWd.size)
  have hSd := HS.out _ hB1
  refine hK.out _ _ hSd ?_
  clear hK
  try simp only [Act.put]
  refine wpAnyF_last (o := _) (by kernel_rfl) rfl (fun K' hK => ?_)
  rw [if_pos (by rfl)]
  go_simp
  refine hK.out _ _ ?_
  clear hK
  refine wpAnyF_done (by kernel_rfl) ?_ _
  try simp only [Act.put]
  by_cases hqc : q = c
  · rw [if_pos hqc] at HPV
    have hd : ((q : Int) == (c : Int)) = true := by simp [hqc]
    clear hSd
    have hWd2 : Below U.heap.size U V1.drew := hB1.drew
    have hSd := HS.out _ hWd2
    go_wp2_with fail
    have hmx : Try.prog.follows .mixedOrders = true := by kernel_rfl
    refine wp_region_last (S := fun v : World => v.cell? ⟨w.heap.size, 0, none⟩ = some (.int .i64 W) ∧ v.cell? ⟨w.heap.size, 1, none⟩ = some (.int .i64 H) ∧ v.cell? ⟨w.heap.size, 2, none⟩ = some (.slice (some ⟨bk, off, none⟩) zs.length ca) ∧ v.cell? ⟨w.heap.size + 1, 0, none⟩ = some (.int .i64 p) ∧ v.cell? ⟨w.heap.size + 1 + 1, 0, none⟩ = some (.int .i64 X) ∧ v.cell? ⟨w.heap.size + 1 + 1, 1, none⟩ = some (.int .i64 Y) ∧ v.cell? ⟨w.heap.size + 1 + 1 + 1, 0, none⟩ = some (.int .i64 c) ∧ v.cell? ⟨bk, off + K1, none⟩ = some (.int .i64 z)) (f := 11) hmx ?_
    show wpAnyF _ _ _ _ _ _ 12 _ _ V1.drew
    refine wpAnyF_take (i := 0) (oi := _) (v := ?vv8) rfl (by kernel_rfl) (by kernel_rfl) (by kernel_rfl) (by kernel_rfl) (by kernel_rfl) (fun _ _ _ h => h) (Or.inl ⟨by rfl, ?yy8⟩) hSd ?rr8
    case yy8 => (intro wq hSq; obtain ⟨_, _, _, _, _, _, _, _⟩ := hSq; go_simp <;> with_reducible rfl)
    try simp only [Act.put]
    refine wpAnyF_take (i := 1) (oi := _) (v := ?vv9) rfl (by kernel_rfl) (by kernel_rfl) (by kernel_rfl) (by kernel_rfl) (by kernel_rfl) (fun _ _ _ h => h) (Or.inl ⟨by rfl, ?yy9⟩) hSd ?rr9
    case yy9 => (intro wq hSq; obtain ⟨_, _, _, _, _, _, _, _⟩ := hSq; go_simp <;> with_reducible rfl)
    try simp only [Act.put]
    refine wpAnyF_take (i := 2) (oi := _) (v := ?vv10) rfl (by kernel_rfl) (by kernel_rfl) (by kernel_rfl) (by kernel_rfl) (by kernel_rfl) (fun _ _ _ h => h) (Or.inl ⟨by rfl, ?yy10⟩) hSd ?rr10
    case yy10 => (intro wq hSq; obtain ⟨_, _, _, _, _, _, _, _⟩ := hSq; go_simp <;> with_reducible rfl)
    try simp only [Act.put]
    refine wpAnyF_take (i := 3) (oi := _) (v := ?vv11) rfl (by kernel_rfl) (by kernel_rfl) (by kernel_rfl) (by kernel_rfl) (by kernel_rfl) (fun _ _ _ h => h) (Or.inl ⟨by rfl, ?yy11⟩) hSd ?rr11
    case yy11 => (intro wq hSq; obtain ⟨_, _, _, _, _, _, _, _⟩ := hSq; go_simp <;> with_reducible rfl)
    try simp only [Act.put]
    refine wpAnyF_take (i := 4) (oi := _) (v := ?vv12) rfl (by kernel_rfl) (by kernel_rfl) (by kernel_rfl) (by kernel_rfl) (by kernel_rfl) (fun _ _ _ h => h) (Or.inl ⟨by rfl, ?yy12⟩) hSd ?rr12
    case yy12 => (intro wq hSq; obtain ⟨_, _, _, _, _, _, _, _⟩ := hSq; go_simp <;> with_reducible rfl)
    try simp only [Act.put]
    refine wpAnyF_take (i := 5) (oi := _) (v := ?vv13) rfl (by kernel_rfl) (by kernel_rfl) (by kernel_rfl) (by kernel_rfl) (by kernel_rfl) (fun _ _ _ h => h) (Or.inl ⟨by rfl, ?yy13⟩) hSd ?rr13
    case yy13 => (intro wq hSq; obtain ⟨_, _, _, _, _, _, _, _⟩ := hSq; go_simp <;> with_reducible rfl)
    try simp only [Act.put]
    refine wpAnyF_take (i := 6) (oi := _) (v := ?vv14) rfl (by kernel_rfl) (by kernel_rfl) (by kernel_rfl) (by kernel_rfl) (by kernel_rfl) (fun _ _ _ h => h) (Or.inl ⟨by rfl, ?yy14⟩) hSd ?rr14
    case yy14 => (intro wq hSq; obtain ⟨_, _, _, _, _, _, _, _⟩ := hSq; go_simp <;> with_reducible rfl)
    try simp only [Act.put]
    refine wpAnyF_take (i := 7) (oi := _) (v := ?vv15) rfl (by kernel_rfl) (by kernel_rfl) (by kernel_rfl) (by kernel_rfl) (by kernel_rfl) (fun _ _ _ h => h) (Or.inl ⟨by rfl, ?yy15⟩) hSd ?rr15
    case yy15 => (intro wq hSq; obtain ⟨_, _, _, _, _, _, _, _⟩ := hSq; go_simp <;> with_reducible rfl)
    try simp only [Act.put]
    refine wpAnyF_one (i := 8) (o := _) (by kernel_rfl) rfl (fun K' hK => ?_)
    rw [if_pos (by rfl)]
    go_simp
    refine (HIX.out _).mono ?_
    rintro e V2 ⟨rfl, hbv2⟩
    have hB2 : Below U.heap.size U V2 := hWd2.trans (hbv2.mono hWd2.size)
    have hSd := HS.out _ hB2
    refine hK.out _ _ hSd ?_
    clear hK
    try simp only [Act.put]
    refine wpAnyF_take (i := 9) (oi := _) (v := ?vv16) rfl (by kernel_rfl) (by kernel_rfl) (by kernel_rfl) (by kernel_rfl) (by kernel_rfl) (fun _ _ _ h => h) (Or.inl ⟨by rfl, ?yy16⟩) hSd ?rr16
    case yy16 => (intro wq hSq; obtain ⟨_, _, _, _, _, _, _, _⟩ := hSq; go_simp <;> with_reducible rfl)
    try simp only [Act.put]
    refine wpAnyF_take (i := 10) (oi := _) (v := ?vv17) rfl (by kernel_rfl) (by kernel_rfl) (by kernel_rfl) (by kernel_rfl) (by kernel_rfl) (fun _ _ _ h => h) (Or.inl ⟨by rfl, ?yy17⟩) hSd ?rr17
    case yy17 => (intro wq hSq; obtain ⟨_, _, _, _, _, _, _, _⟩ := hSq; go_simp <;> with_reducible rfl)
    try simp only [Act.put]
    refine wpAnyF_last (o := _) (by kernel_rfl) rfl (fun K' hK => ?_)
    rw [if_pos (by rfl)]
    go_simp
    refine hK.out _ _ ?_
    clear hK
    refine wpAnyF_done (by kernel_rfl) ?_ _
    try simp only [Act.put]
    go_wp2
    go_ret
    exact ⟨ret_int HPV.out.symm, HB.out.trans (hB2.mono HB.out.size)⟩
  · rw [if_neg hqc] at HPV
    have hd : ((q : Int) == (c : Int)) = false := by simpa using fun h : (q : Int) = c => hqc (by omega)
    clear hSd
    have hWd2 : Below U.heap.size U V1.drew := hB1.drew
    have hSd := HS.out _ hWd2
    go_wp2_with fail
    have hmx : Try.prog.follows .mixedOrders = true := by kernel_rfl
    refine wp_region_last (S := fun v : World => v.cell? ⟨w.heap.size, 0, none⟩ = some (.int .i64 W) ∧ v.cell? ⟨w.heap.size, 1, none⟩ = some (.int .i64 H) ∧ v.cell? ⟨w.heap.size, 2, none⟩ = some (.slice (some ⟨bk, off, none⟩) zs.length ca) ∧ v.cell? ⟨w.heap.size + 1, 0, none⟩ = some (.int .i64 p) ∧ v.cell? ⟨w.heap.size + 1 + 1, 0, none⟩ = some (.int .i64 X) ∧ v.cell? ⟨w.heap.size + 1 + 1, 1, none⟩ = some (.int .i64 Y) ∧ v.cell? ⟨w.heap.size + 1 + 1 + 1, 0, none⟩ = some (.int .i64 c) ∧ v.cell? ⟨bk, off + K1, none⟩ = some (.int .i64 z)) (f := 5) hmx ?_
    show wpAnyF _ _ _ _ _ _ 6 _ _ V1.drew
    refine wpAnyF_take (i := 0) (oi := _) (v := ?vv18) rfl (by kernel_rfl) (by kernel_rfl) (by kernel_rfl) (by kernel_rfl) (by kernel_rfl) (fun _ _ _ h => h) (Or.inl ⟨by rfl, ?yy18⟩) hSd ?rr18
    case yy18 => (intro wq hSq; obtain ⟨_, _, _, _, _, _, _, _⟩ := hSq; go_simp <;> with_reducible rfl)
    try simp only [Act.put]
    refine wpAnyF_take (i := 1) (oi := _) (v := ?vv19) rfl (by kernel_rfl) (by kernel_rfl) (by kernel_rfl) (by kernel_rfl) (by kernel_rfl) (fun _ _ _ h => h) (Or.inl ⟨by rfl, ?yy19⟩) hSd ?rr19
    case yy19 => (intro wq hSq; obtain ⟨_, _, _, _, _, _, _, _⟩ := hSq; go_simp <;> with_reducible rfl)
    try simp only [Act.put]
    refine wpAnyF_take (i := 3) (oi := _) (v := ?vv20) rfl (by kernel_rfl) (by kernel_rfl) (by kernel_rfl) (by kernel_rfl) (by kernel_rfl) (fun _ _ _ h => h) (Or.inl ⟨by rfl, ?yy20⟩) hSd ?rr20
    case yy20 => (intro wq hSq; obtain ⟨_, _, _, _, _, _, _, _⟩ := hSq; go_simp <;> with_reducible rfl)
    try simp only [Act.put]
    refine wpAnyF_one (i := 2) (o := _) (by kernel_rfl) rfl (fun K' hK => ?_)
    rw [if_pos (by rfl)]
    go_simp
    refine ((callsIn_wide (n := 3)).1 (around_in Fence.wide _ trivial rfl _ _ _)).mono ?_
    rintro e V2 ⟨rfl, rfl⟩
    have hB2 : Below U.heap.size U (V1.drew.alloc (Obj.cells #[.int .i64 X, .int .i64 Y] 93)) := hWd2.alloc hWd2.size _
    have hSd := HS.out _ hB2
    refine hK.out _ _ hSd ?_
    clear hK
    try simp only [Act.put]
    refine wpAnyF_one (i := 4) (o := _) (by kernel_rfl) rfl (fun K' hK => ?_)
    rw [if_pos (by rfl)]
    go_simp
    have hsU : U.heap.size ≤ V1.heap.size := hWd2.size
    have tB : (V1.drew.alloc (Obj.cells #[.int .i64 X, .int .i64 Y] 93)).heap[V1.drew.heap.size]? = some (.cells #[.int .i64 X, .int .i64 Y] 93 (0, 0)) := al1 V1.drew _
    refine (HMP.out _ (HB.out.trans (hB2.mono HB.out.size)) V1.drew.heap.size (by simp) (by rw [Lib.cell_of_heap tB]; rfl) (by rw [Lib.cell_of_heap tB]; rfl) (by simp; omega) (by simp; omega) hSd.2.2.2.1 hSd.2.2.2.2.2.2.1).mono ?_
    rintro e V3 ⟨rfl, hb3⟩
    have hB3 : Below U.heap.size U V3 := hB2.trans (hb3.mono hB2.size)
    have hSd := HS.out _ hB3
    refine hK.out _ _ hSd ?_
    clear hK
    try simp only [Act.put]
    refine wpAnyF_last (o := _) (by kernel_rfl) rfl (fun K' hK => ?_)
    rw [if_pos (by rfl)]
    go_simp
    refine hK.out _ _ ?_
    clear hK
    refine wpAnyF_done (by kernel_rfl) ?_ _
    try simp only [Act.put]
    go_wp2
    go_ret
    exact ⟨ret_int HPV.out.symm, HB.out.trans (hB3.mono HB.out.size)⟩

end Go.Proofs.Ytolcndchfnifhab

/- Pixels in memory. -/
namespace Go.Proofs.Ytolcndchfnifhab
open Go.RowKit

abbrev Px := Int × Int × Int
def pixZ : Value := .agg #[.int .i64 0, .int .i64 0, .int .i64 0]
abbrev pixV (t : Px) : Value := .agg #[.int .i64 t.1, .int .i64 t.2.1, .int .i64 t.2.2]
abbrev pixA (t : Px) : Array Value := #[.int .i64 t.1, .int .i64 t.2.1, .int .i64 t.2.2]
def pixL (t : Px) : List Value := [.int .i64 t.1, .int .i64 t.2.1, .int .i64 t.2.2]

theorem Try.infoPixel : (Try.prog.info? 50).map (fun i => (i.zero, i.size, i.bytes)) = some (some pixZ, 3, 24) := by kernel_rfl

/-- The slice v holds these pixels in the world w. -/
def IsPix (w : World) (v : Value) (ps : List Px) : Prop :=
  ∃ ao cap, v = .slice ao ps.length cap ∧ ps.length ≤ 9223372036854775807 ∧ (ps = [] ∨ ∃ b off, ao = some ⟨b, off, none⟩ ∧ b < w.heap.size ∧ ∀ j (h : j < ps.length),
    w.cell? ⟨b, off + j * 3, none⟩ = some (.int .i64 ps[j].1) ∧ w.cell? ⟨b, off + j * 3 + 1, none⟩ = some (.int .i64 ps[j].2.1) ∧ w.cell? ⟨b, off + j * 3 + 2, none⟩ = some (.int .i64 ps[j].2.2))

theorem IsPix.len {w : World} {v : Value} {ps : List Px} (h : IsPix w v ps) : ps.length ≤ 9223372036854775807 := by
  obtain ⟨_, _, _, h, _⟩ := h; exact h
theorem IsPix.below {w w' : World} {v : Value} {ps : List Px} {B : Nat} (h : IsPix w v ps) (hb : Below B w w') (hB : w.heap.size ≤ B) : IsPix w' v ps := by
  obtain ⟨ao, cap, hv, hl, h⟩ := h
  refine ⟨ao, cap, hv, hl, ?_⟩
  rcases h with h | ⟨b, off, ha, hlt, hc⟩
  · exact .inl h
  · refine .inr ⟨b, off, ha, Nat.lt_of_lt_of_le hlt hb.size, fun j hj => ?_⟩
    rw [hb.cell (p := ⟨b, off + j * 3, none⟩) (by exact Nat.lt_of_lt_of_le hlt hB), hb.cell (p := ⟨b, off + j * 3 + 1, none⟩) (by exact Nat.lt_of_lt_of_le hlt hB), hb.cell (p := ⟨b, off + j * 3 + 2, none⟩) (by exact Nat.lt_of_lt_of_le hlt hB)]
    exact hc j hj
theorem IsPix.alloc {w : World} {v : Value} {ps : List Px} (h : IsPix w v ps) (o : Obj) : IsPix (w.alloc o) v ps :=
  h.below ((Below.refl _ _).alloc (Nat.le_refl _) o) (Nat.le_refl _)
theorem IsPix.drew {w : World} {v : Value} {ps : List Px} (h : IsPix w v ps) : IsPix w.drew v ps := h
theorem IsPix.nil (w : World) : IsPix w (.slice none 0 0) [] := ⟨none, 0, rfl, by simp, .inl rfl⟩

theorem flat_length (ps : List Px) : (ps.flatMap pixL).length = ps.length * 3 := by
  induction ps with
  | nil => rfl
  | cons p ps ih => rw [List.flatMap_cons, List.length_append, ih, List.length_cons]; simp [pixL]; omega
theorem flat_get (ps : List Px) (j : Nat) (h : j < ps.length) :
    (ps.flatMap pixL)[j * 3]? = some (.int .i64 ps[j].1) ∧ (ps.flatMap pixL)[j * 3 + 1]? = some (.int .i64 ps[j].2.1) ∧ (ps.flatMap pixL)[j * 3 + 2]? = some (.int .i64 ps[j].2.2) := by
  induction ps generalizing j with
  | nil => simp at h
  | cons p ps ih =>
    cases j with
    | zero => simp [pixL, List.flatMap_cons]
    | succ j =>
      have h' : j < ps.length := by simpa using h
      have := ih j h'
      rw [List.flatMap_cons, show (j + 1) * 3 = j * 3 + 3 by omega]
      simp only [pixL, List.cons_append, List.nil_append, List.getElem?_cons_succ, List.getElem_cons_succ]
      exact this

theorem IsPix.own {w : World} {base : Nat} {v : Value} {ps : List Px} (h : w.ownsRow base 50 3 v ps.length (ps.flatMap pixL)) (hl : ps.length ≤ 9223372036854775807) : IsPix w v ps := by
  rcases h.2 with ⟨hv, hn⟩ | ⟨g, cap, cur, hv, _, hg, h1, h2, h3, h4⟩
  · exact ⟨none, 0, by rw [hv, hn], hl, .inl (List.eq_nil_of_length_eq_zero hn)⟩
  · refine ⟨_, cap, hv, hl, .inr ⟨g, 0, rfl, (Array.getElem?_eq_some_iff.1 hg).1, fun j hj => ?_⟩⟩
    have key : ∀ i u, i < ps.length * 3 → (ps.flatMap pixL)[i]? = some u → w.cell? ⟨g, 0 + i, none⟩ = some u := fun i u hi hu => by
      rw [Nat.zero_add, cell_of_row w g i cur _ _ hg]
      rw [← h4, List.getElem?_take_of_lt hi] at hu
      simpa using hu
    obtain ⟨a, b, c⟩ := flat_get ps j hj
    exact ⟨key _ _ (by omega) a, key _ _ (by omega) b, key _ _ (by omega) c⟩

theorem IsPix.other {w w' : World} {v : Value} {ps : List Px} {k : Nat} (h : IsPix w v ps) (hs : w.heap.size ≤ w'.heap.size) (hk : ∀ b, b ≠ k → w'.heap[b]? = w.heap[b]?) (hne : v.ownBlock ≠ some k) : IsPix w' v ps := by
  obtain ⟨ao, cap, rfl, hl, h⟩ := h
  refine ⟨ao, cap, rfl, hl, ?_⟩
  rcases h with h | ⟨b, off, rfl, hlt, hc⟩
  · exact .inl h
  · have hb : b ≠ k := fun e => hne (by rw [e]; rfl)
    refine .inr ⟨b, off, rfl, Nat.lt_of_lt_of_le hlt hs, fun j hj => ?_⟩
    rw [World.cell?_of_block (a := ⟨b, off + j * 3, none⟩) (hk b hb), World.cell?_of_block (a := ⟨b, off + j * 3 + 1, none⟩) (hk b hb), World.cell?_of_block (a := ⟨b, off + j * 3 + 2, none⟩) (hk b hb)]
    exact hc j hj
theorem IsPix.set3 {w : World} {v : Value} {ps : List Px} {B k : Nat} (h : IsPix w v ps) (hf : Fresh B v) (hk : k < B) (x y z : Value) : IsPix (((w.setCell ⟨k, 0, none⟩ x).setCell ⟨k, 1, none⟩ y).setCell ⟨k, 2, none⟩ z) v ps :=
  h.other (set3_size _ _ _ _ _) (fun b hb => set3_heap _ _ _ _ _ b hb) (hf.ne hk)
end Go.Proofs.Ytolcndchfnifhab

