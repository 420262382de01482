/- grid: the four places two columns, or rows, from one, as the loop over a function gets them. -/
import Derived.Test.YtolcndchfnifhaaGridPlane
namespace Go.Proofs.Ytolcndchfnifhaa
open Go.RowKit Go.Shelf

attribute [local go_sem] Oper.semAt_some

/-- the k-th of the four: how far it is. -/
def crDx (k : Nat) : Int := if k = 1 then -2 else if k = 2 then 2 else 0
def crDy (k : Nat) : Int := if k = 0 then -2 else if k = 3 then 2 else 0
def crX (X : Nat) (x : Fin 4) : Int := (X : Int) + crDx x.1
def crY (Y : Nat) (x : Fin 4) : Int := (Y : Int) + crDy x.1
theorem cr0 (w : World) : (Instr.index 140 (.agg #[.int .i64 0, .int .i64 (-2), .int .i64 (-2), .int .i64 0, .int .i64 2, .int .i64 0, .int .i64 0, .int .i64 2]) (.int .i64 0)).run Try.prog w = .ok (.agg #[.int .i64 0, .int .i64 (-2)]) w := by kernel_rfl
theorem cr1 (w : World) : (Instr.index 140 (.agg #[.int .i64 0, .int .i64 (-2), .int .i64 (-2), .int .i64 0, .int .i64 2, .int .i64 0, .int .i64 0, .int .i64 2]) (.int .i64 1)).run Try.prog w = .ok (.agg #[.int .i64 (-2), .int .i64 0]) w := by kernel_rfl
theorem cr2 (w : World) : (Instr.index 140 (.agg #[.int .i64 0, .int .i64 (-2), .int .i64 (-2), .int .i64 0, .int .i64 2, .int .i64 0, .int .i64 0, .int .i64 2]) (.int .i64 2)).run Try.prog w = .ok (.agg #[.int .i64 2, .int .i64 0]) w := by kernel_rfl
theorem cr3 (w : World) : (Instr.index 140 (.agg #[.int .i64 0, .int .i64 (-2), .int .i64 (-2), .int .i64 0, .int .i64 2, .int .i64 0, .int .i64 0, .int .i64 2]) (.int .i64 3)).run Try.prog w = .ok (.agg #[.int .i64 0, .int .i64 2]) w := by kernel_rfl
theorem crAt (k : Nat) (hk : k < 4) (w : World) : (Instr.index 140 (.agg #[.int .i64 0, .int .i64 (-2), .int .i64 (-2), .int .i64 0, .int .i64 2, .int .i64 0, .int .i64 0, .int .i64 2]) (.int .i64 k)).run Try.prog w = .ok (.agg #[.int .i64 (crDx k), .int .i64 (crDy k)]) w := by
  rcases (show k = 0 ∨ k = 1 ∨ k = 2 ∨ k = 3 by omega) with rfl | rfl | rfl | rfl
  · exact cr0 w
  · exact cr1 w
  · exact cr2 w
  · exact cr3 w
theorem crDx_ok (k : Nat) : -2 ≤ crDx k ∧ crDx k ≤ 2 := by unfold crDx; split <;> (try split) <;> omega
theorem crDy_ok (k : Nat) : -2 ≤ crDy k ∧ crDy k ≤ 2 := by unfold crDy; split <;> (try split) <;> omega

theorem cross_in (F : Fence) (n : Nat) (hf : F.fn 106) (hro : F.round = none) (X Y far : Int) (w : World) :
    CallsIn F n Try.prog 106 #[.agg #[.int .i64 X, .int .i64 Y], .int .i64 far] w fun e w' => e = .returned (.func (.func 125) #[] #[.pointer (some ⟨w.heap.size + 1, 0, none⟩), .pointer (some ⟨w.heap.size, 0, none⟩)]) ∧ w' = (w.alloc (.cells #[.int .i64 X, .int .i64 Y] 117)).alloc (.cells #[.int .i64 far] 3) := by
  refine callsIn_of_wp Try.func106 rfl hf ?_ hro
  simp only [Try.ntmps106, List.size_toArray, List.length_cons, List.length_nil, Nat.reduceAdd, Nat.reduceSub, Array.replicate_succ, Array.replicate_zero, List.push_toArray, List.append_toArray, List.nil_append, List.cons_append]
  gi_wp2
  go_ret
  exact ⟨rfl, rfl⟩

set_option maxRecDepth 100000 in
set_option maxHeartbeats 1600000 in
theorem cross1_in (F : Fence) (n : Nat) (hf : F.fn 125) (hro : F.round = none) (hn : 1 ≤ n) (l Bs Bf X Y : Nat) (hX : X ≤ 64) (hY0 : Y ≤ 64) (J Jx : List (Fin 4) → World → Prop) (hJa : ∀ s W o, J s W → J s (W.alloc o))
    (hY : ∀ pre (x : Fin 4) V, J pre V → pre.length < 4 → YieldAt F (n - 1) Try.prog l #[.agg #[.int .i64 (crX X x), .int .i64 (crY Y x)]] V fun e V' =>
      (e = .returned (.bool true) ∧ J (pre ++ [x]) V' ∧ KeepB Bs V V') ∨ (e = .returned (.bool false) ∧ Jx (pre ++ [x]) V'))
    (V : World) (hcf : V.cell? ⟨Bf, 0, none⟩ = some (.int .i64 2)) (hc0 : V.cell? ⟨Bs, 0, none⟩ = some (.int .i64 X)) (hc1 : V.cell? ⟨Bs, 1, none⟩ = some (.int .i64 Y)) (h0 : J [] V) :
    CallsIn F n Try.prog 125 #[.func (.yield l) #[] #[], .pointer (some ⟨Bf, 0, none⟩), .pointer (some ⟨Bs, 0, none⟩)] V fun e V' => (∃ v, e = .returned v) ∧
      ((∃ ys, ys = List.finRange 4 ∧ J ys V') ∨ (∃ pre, pre <+: List.finRange 4 ∧ Jx pre V')) := by
  refine callsIn_of_wp Try.func125 rfl hf ?_ hro
  simp only [Try.ntmps125, List.size_toArray, List.length_cons, List.length_nil, Nat.reduceAdd, Nat.reduceSub, Array.replicate_succ, Array.replicate_zero, List.push_toArray, List.append_toArray, List.nil_append, List.cons_append]
  gi_wp2
  gi_loopw [17] (fun i wr => ∃ (b : Nat), b ≤ 4 ∧ i = .int .i64 b ∧ J (idx 4 b) wr ∧ wr.cell? ⟨Bs, 0, none⟩ = some (.int .i64 X) ∧ wr.cell? ⟨Bs, 1, none⟩ = some (.int .i64 Y)) (fun i _ => 4 - (intOf i).toNat)
  case atStart => exact ⟨0, by omega, rfl, h0, hc0, hc1⟩
  case round =>
    obtain ⟨b, hb, rfl, hJ, c0, c1⟩ := hrel
    clear hc0 hc1 h0 hcf
    have hbs : Bs < wr.heap.size := World.block_lt_of_cell? wr _ c0
    by_cases hlt : b < 4
    · have hd : decide ((b : Int) < 4) = true := by simp; omega
      have hix := crAt b hlt
      have hdx := crDx_ok b
      have hdy := crDy_ok b
      have hYx := hY (idx 4 b) ⟨b, hlt⟩ (wr.alloc (Obj.cells #[.int .i64 (crDx b), .int .i64 (crDy b)] 117)) (hJa _ _ _ hJ) (by rw [idx_length _ _ (Nat.le_of_lt hlt)]; exact hlt)
      simp only [crX, crY] at hYx
      have k0 := (World.cell?_of_block (a := ⟨Bs, 0, none⟩) (Below.heap_alloc wr (Obj.cells #[.int .i64 (crDx b), .int .i64 (crDy b)] 117) Bs hbs)).trans c0
      have k1 := (World.cell?_of_block (a := ⟨Bs, 1, none⟩) (Below.heap_alloc wr (Obj.cells #[.int .i64 (crDx b), .int .i64 (crDy b)] 117) Bs hbs)).trans c1
      have HSP := hide (show idx 4 (b + 1) = idx 4 b ++ [⟨b, hlt⟩] from idx_succ 4 b hlt)
      have HPR := hide (show idx 4 b ++ [⟨b, hlt⟩] <+: List.finRange 4 by rw [← idx_succ 4 _ hlt]; exact idx_prefix 4 _)
      obtain ⟨dx, hdxe⟩ : ∃ dx, crDx b = dx := ⟨_, rfl⟩
      obtain ⟨dy, hdye⟩ : ∃ dy, crDy b = dy := ⟨_, rfl⟩
      rw [hdxe] at hix hdx hYx k0 k1
      rw [hdye] at hix hdy hYx k0 k1
      obtain ⟨hdx1, hdx2⟩ := hdx
      obtain ⟨hdy1, hdy2⟩ := hdy
      obtain ⟨fn, tmps, assign, body, hy', hR⟩ := hYx
      clear hdxe hdye
      gi_wp2
      refine hR.mono ?_
      rintro e V3 (⟨rfl, hJ3, hk3⟩ | ⟨rfl, hJx3⟩)
      · have c3 := (World.cell?_of_block (a := ⟨Bs, 0, none⟩) hk3).trans k0
        have c4 := (World.cell?_of_block (a := ⟨Bs, 1, none⟩) hk3).trans k1
        rw [← HSP.out] at hJ3
        gi_wp2
        go_roundw
        case rel => exact ⟨b + 1, by omega, by go_num, hJ3, c3, c4⟩
        case measure => simp [intOf]; omega
      · gi_wp2
        refine bodyPost_ret (results_none rfl _ _ _) rfl ?_
        exact ⟨⟨_, rfl⟩, .inr ⟨_, HPR.out, hJx3⟩⟩
    · obtain rfl : b = 4 := by omega
      have hd : decide (((4 : Nat) : Int) < 4) = false := by simp
      gi_wp2
      go_end0
      exact ⟨⟨_, rfl⟩, .inl ⟨_, by rw [← idx_all], hJ⟩⟩

theorem cross_stops (F : Fence) (n : Nat) (hf : F.fn 125) (hro : F.round = none) (hn : 1 ≤ n) (Bs Bf X Y : Nat) (hX : X ≤ 64) (hY0 : Y ≤ 64) (w : World) (hBw : Bs < w.heap.size) (hBf : Bf < w.heap.size) (hcf : w.cell? ⟨Bf, 0, none⟩ = some (.int .i64 2))
    (hc0 : w.cell? ⟨Bs, 0, none⟩ = some (.int .i64 X)) (hc1 : w.cell? ⟨Bs, 1, none⟩ = some (.int .i64 Y)) :
    SeqStopsK F n Try.prog 125 #[.pointer (some ⟨Bf, 0, none⟩), .pointer (some ⟨Bs, 0, none⟩)] (fun x : Fin 4 => #[Value.agg #[.int .i64 (crX X x), .int .i64 (crY Y x)]]) (KeepB Bs) (fun ys => ys = List.finRange 4) (fun pre => pre <+: List.finRange 4) 4 w := fun l J Jx V hV hJ _ hY h0 =>
  cross1_in F n hf hro hn l Bs Bf X Y hX hY0 J Jx (fun s W o h => hJ s W (W.alloc o) none h (World.grownBy_alloc W o none) (fun r e => by cases e)) hY V ((hV.cell (p := ⟨Bf, 0, none⟩) hBf).trans hcf) ((hV.cell (p := ⟨Bs, 0, none⟩) hBw).trans hc0) ((hV.cell (p := ⟨Bs, 1, none⟩) hBw).trans hc1) h0

end Go.Proofs.Ytolcndchfnifhaa
