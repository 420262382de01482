/- grid: the eight places around one, as the loop over a function gets them. -/
import Derived.Test.YtolcndchfnifhabGridPlane
namespace Go.Proofs.Ytolcndchfnifhab
open Go.RowKit Go.Shelf

attribute [local go_sem] Oper.semAt_some

/-- the number, of nine, of the k-th of the eight; and back. -/
def nOf (k : Nat) : Nat := if k < 4 then k else k + 1
def posOf (n : Nat) : Nat := if n ≤ 4 then n else n - 1
theorem posOf_succ (n : Nat) (h : n ≠ 4) : posOf (n + 1) = posOf n + 1 := by unfold posOf; split <;> split <;> omega
theorem nOf_posOf (n : Nat) (h : n ≠ 4) : nOf (posOf n) = n := by unfold nOf posOf; split <;> split <;> omega
theorem posOf_lt (n : Nat) (h : n < 9) : posOf n < 8 := by unfold posOf; split <;> omega

theorem around_in (F : Fence) (n : Nat) (hf : F.fn 110) (hro : F.round = none) (X Y : Int) (w : World) :
    CallsIn F n Try.prog 110 #[.agg #[.int .i64 X, .int .i64 Y]] w fun e w' => e = .returned (.func (.func 119) #[] #[.pointer (some ⟨w.heap.size, 0, none⟩)]) ∧ w' = w.alloc (.cells #[.int .i64 X, .int .i64 Y] 93) := by
  refine callsIn_of_wp Try.func110 rfl hf ?_ hro
  simp only [Try.ntmps110, List.size_toArray, List.length_cons, List.length_nil, Nat.reduceAdd, Nat.reduceSub, Array.replicate_succ, Array.replicate_zero, List.push_toArray, List.append_toArray, List.nil_append, List.cons_append]
  gi_wp2
  go_ret
  exact ⟨rfl, rfl⟩

set_option maxRecDepth 100000 in
set_option maxHeartbeats 1600000 in
theorem around1_in (F : Fence) (n : Nat) (hf : F.fn 119) (hro : F.round = none) (hn : 1 ≤ n) (l Bs X Y : Nat) (hX : X ≤ 64) (hY0 : Y ≤ 64) (J Jx : List (Fin 8) → World → Prop) (hJa : ∀ s W o, J s W → J s (W.alloc o))
    (hY : ∀ pre (x : Fin 8) V, J pre V → pre.length < 8 → YieldAt F (n - 1) Try.prog l #[.agg #[.int .i64 ((X : Int) - 1 + (nOf x.1 % 3 : Nat)), .int .i64 ((Y : Int) - 1 + (nOf x.1 / 3 : Nat))]] V fun e V' =>
      (e = .returned (.bool true) ∧ J (pre ++ [x]) V' ∧ KeepB Bs V V') ∨ (e = .returned (.bool false) ∧ Jx (pre ++ [x]) V'))
    (V : World) (hc0 : V.cell? ⟨Bs, 0, none⟩ = some (.int .i64 X)) (hc1 : V.cell? ⟨Bs, 1, none⟩ = some (.int .i64 Y)) (h0 : J [] V) :
    CallsIn F n Try.prog 119 #[.func (.yield l) #[] #[], .pointer (some ⟨Bs, 0, none⟩)] V fun e V' => (∃ v, e = .returned v) ∧
      ((∃ ys, ys = List.finRange 8 ∧ J ys V') ∨ (∃ pre, pre <+: List.finRange 8 ∧ Jx pre V')) := by
  refine callsIn_of_wp Try.func119 rfl hf ?_ hro
  simp only [Try.ntmps119, List.size_toArray, List.length_cons, List.length_nil, Nat.reduceAdd, Nat.reduceSub, Array.replicate_succ, Array.replicate_zero, List.push_toArray, List.append_toArray, List.nil_append, List.cons_append]
  gi_wp2
  gi_loopw [3] (fun i wr => ∃ (b : Nat) (yb : Int), b ≤ 3 ∧ Hid (yb = (Y : Int) - 1 + (b : Nat)) ∧ i = .int .i64 yb ∧ J (idx 8 (posOf (3 * b))) wr ∧ wr.cell? ⟨Bs, 0, none⟩ = some (.int .i64 X) ∧ wr.cell? ⟨Bs, 1, none⟩ = some (.int .i64 Y)) (fun i _ => ((Y : Int) + 2 - intOf i).toNat)
  case atStart => exact ⟨0, (Y : Int) - 1, by omega, hide (by simp), rfl, h0, hc0, hc1⟩
  case round =>
    obtain ⟨b, yb, hb, HYB, rfl, hJ, c0, c1⟩ := hrel
    clear hc0 hc1 h0
    by_cases hlt : b < 3
    · have hd : decide (yb ≤ (Y : Int) + 1) = true := by have := HYB.out; simp; omega
      have hyb0 : -1 ≤ yb ∧ yb ≤ 66 := by have := HYB.out; omega
      obtain ⟨hyb0, hyb1⟩ := hyb0
      gi_wp2
      gi_loopw [4] (fun i wr => ∃ (a : Nat) (xa : Int), a ≤ 3 ∧ Hid (xa = (X : Int) - 1 + (a : Nat)) ∧ i = .int .i64 xa ∧ J (idx 8 (posOf (3 * b + a))) wr ∧ wr.cell? ⟨Bs, 0, none⟩ = some (.int .i64 X) ∧ wr.cell? ⟨Bs, 1, none⟩ = some (.int .i64 Y)) (fun i _ => ((X : Int) + 2 - intOf i).toNat)
      case atStart => exact ⟨0, (X : Int) - 1, by omega, hide (by simp), rfl, hJ, c0, c1⟩
      case round =>
        clear hJ c0 c1
        obtain ⟨a, xa, ha, HXA, rfl, hJ, c0, c1⟩ := hrel
        have hbs : Bs < wr.heap.size := World.block_lt_of_cell? wr _ c0
        have hxa0 : -1 ≤ xa ∧ xa ≤ 66 := by have := HXA.out; omega
        obtain ⟨hxa0, hxa1⟩ := hxa0
        by_cases hal : a < 3
        · have hd2 : decide (xa ≤ (X : Int) + 1) = true := by have := HXA.out; simp; omega
          have k0 := (World.cell?_of_block (a := ⟨Bs, 0, none⟩) (Below.heap_alloc wr (Obj.cells #[.int .i64 xa, .int .i64 yb] 93) Bs hbs)).trans c0
          have k1 := (World.cell?_of_block (a := ⟨Bs, 1, none⟩) (Below.heap_alloc wr (Obj.cells #[.int .i64 xa, .int .i64 yb] 93) Bs hbs)).trans c1
          have HNX := hide (show xa + 1 = (X : Int) - 1 + ((a + 1 : Nat) : Int) by have := HXA.out; omega)
          have hms : ((X : Int) + 2 - (xa + 1)).toNat < ((X : Int) + 2 - xa).toNat := by have := HXA.out; omega
          by_cases hcen : a = 1 ∧ b = 1
          · obtain rfl : xa = (X : Int) := by have := HXA.out; omega
            obtain rfl : yb = (Y : Int) := by have := HYB.out; omega
            have HP := hide (show posOf (3 * b + (a + 1)) = posOf (3 * b + a) by rw [hcen.1, hcen.2]; rfl)
            clear hcen
            gi_wp2
            refine ⟨fun _ h => (by cases h), ?_⟩
            gi_wp2
            go_roundw
            case rel => exact ⟨a + 1, _, by omega, HNX, rfl, by rw [HP.out]; exact hJa _ _ _ hJ, k0, k1⟩
            case measure => simpa [intOf] using hms
          · have hn4 : 3 * b + a ≠ 4 := by omega
            have hplt := posOf_lt (3 * b + a) (by omega)
            have hYx := hY (idx 8 (posOf (3 * b + a))) ⟨posOf (3 * b + a), hplt⟩ (wr.alloc (Obj.cells #[.int .i64 xa, .int .i64 yb] 93)) (hJa _ _ _ hJ) (by rw [idx_length _ _ (Nat.le_of_lt hplt)]; exact hplt)
            simp only [nOf_posOf (3 * b + a) hn4, show (3 * b + a) % 3 = a by omega, show (3 * b + a) / 3 = b by omega] at hYx
            rw [← HXA.out, ← HYB.out] at hYx
            obtain ⟨fn, tmps, assign, body, hy', hR⟩ := hYx
            have HSP := hide (show idx 8 (posOf (3 * b + (a + 1))) = idx 8 (posOf (3 * b + a)) ++ [⟨posOf (3 * b + a), hplt⟩] by
              rw [← idx_succ 8 _ hplt, ← posOf_succ _ hn4]; rfl)
            have HPR := hide (show idx 8 (posOf (3 * b + a)) ++ [⟨posOf (3 * b + a), hplt⟩] <+: List.finRange 8 by
              rw [← idx_succ 8 _ hplt]; exact idx_prefix 8 _)
            have hor : (¬ xa = (X : Int)) ∨ (xa = (X : Int) ∧ ¬ yb = (Y : Int)) := by have := HXA.out; have := HYB.out; omega
            clear hn4
            rcases hor with hxa | ⟨hxa, hyb⟩
            · gi_wp2
              refine hR.mono ?_
              rintro e V3 (⟨rfl, hJ3, hk3⟩ | ⟨rfl, hJx3⟩)
              · have c3 := (World.cell?_of_block (a := ⟨Bs, 0, none⟩) hk3).trans k0
                have c4 := (World.cell?_of_block (a := ⟨Bs, 1, none⟩) hk3).trans k1
                rw [← HSP.out] at hJ3
                gi_wp2
                go_roundw
                case rel => exact ⟨a + 1, _, by omega, HNX, rfl, hJ3, c3, c4⟩
                case measure => simpa [intOf] using hms
              · gi_wp2
                refine bodyPost_ret (results_none rfl _ _ _) rfl ?_
                exact ⟨⟨_, rfl⟩, .inr ⟨_, HPR.out, hJx3⟩⟩
            · subst hxa
              gi_wp2
              refine hR.mono ?_
              rintro e V3 (⟨rfl, hJ3, hk3⟩ | ⟨rfl, hJx3⟩)
              · have c3 := (World.cell?_of_block (a := ⟨Bs, 0, none⟩) hk3).trans k0
                have c4 := (World.cell?_of_block (a := ⟨Bs, 1, none⟩) hk3).trans k1
                rw [← HSP.out] at hJ3
                gi_wp2
                go_roundw
                case rel => exact ⟨a + 1, _, by omega, HNX, rfl, hJ3, c3, c4⟩
                case measure => simpa [intOf] using hms
              · gi_wp2
                refine bodyPost_ret (results_none rfl _ _ _) rfl ?_
                exact ⟨⟨_, rfl⟩, .inr ⟨_, HPR.out, hJx3⟩⟩
        · have hd2 : decide (xa ≤ (X : Int) + 1) = false := by have := HXA.out; simp; omega
          obtain rfl : a = 3 := by omega
          have HNY := hide (show yb + 1 = (Y : Int) - 1 + ((b + 1 : Nat) : Int) by have := HYB.out; omega)
          have hms : ((Y : Int) + 2 - (yb + 1)).toNat < ((Y : Int) + 2 - yb).toNat := by have := HYB.out; omega
          gi_wp2
          go_roundw
          case rel => exact ⟨b + 1, _, by omega, HNY, rfl, hJ, c0, c1⟩
          case measure => simpa [intOf] using hms
    · obtain rfl : b = 3 := by omega
      have hd : decide (yb ≤ (Y : Int) + 1) = false := by have := HYB.out; simp; omega
      gi_wp2
      go_end0
      exact ⟨⟨_, rfl⟩, .inl ⟨_, by rw [← idx_all]; rfl, hJ⟩⟩

theorem around_stops (F : Fence) (n : Nat) (hf : F.fn 119) (hro : F.round = none) (hn : 1 ≤ n) (Bs X Y : Nat) (hX : X ≤ 64) (hY0 : Y ≤ 64) (w : World) (hBw : Bs < w.heap.size)
    (hc0 : w.cell? ⟨Bs, 0, none⟩ = some (.int .i64 X)) (hc1 : w.cell? ⟨Bs, 1, none⟩ = some (.int .i64 Y)) :
    SeqStopsK F n Try.prog 119 #[.pointer (some ⟨Bs, 0, none⟩)] (fun x : Fin 8 => #[Value.agg #[.int .i64 ((X : Int) - 1 + (nOf x.1 % 3 : Nat)), .int .i64 ((Y : Int) - 1 + (nOf x.1 / 3 : Nat))]]) (KeepB Bs) (fun ys => ys = List.finRange 8) (fun pre => pre <+: List.finRange 8) 8 w := fun l J Jx V hV hJ _ hY h0 =>
  around1_in F n hf hro hn l Bs X Y hX hY0 J Jx (fun s W o h => hJ s W (W.alloc o) none h (World.grownBy_alloc W o none) (fun r e => by cases e)) hY V ((hV.cell (p := ⟨Bs, 0, none⟩) hBw).trans hc0) ((hV.cell (p := ⟨Bs, 1, none⟩) hBw).trans hc1) h0

end Go.Proofs.Ytolcndchfnifhab
