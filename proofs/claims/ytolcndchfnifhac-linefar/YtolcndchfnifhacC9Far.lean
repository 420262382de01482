/- Far: part 9 of what the proofs need. -/
import Derived.Test.YtolcndchfnifhacC1Far
import Derived.Test.YtolcndchfnifhacC2Far
import Derived.Test.YtolcndchfnifhacC4Far
import Derived.Test.YtolcndchfnifhacC8Far
import Derived.Laws.OwnMore
import Derived.ProofKit
import Derived.OpenShut
import Derived.ChangeSame
import Derived.ChangeArms
import Derived.DataReads
namespace Go.Proofs.Ytolcndchfnifhac
set_option linter.unusedVariables false
open Go.RowKit
theorem bel_grown {w w' w0 : World} {B : Nat} {row : Option Nat} (h : Below B w0 w) (hs : B ≤ w.heap.size) (hg : w.grownBy w' row) (hr : ∀ b, row = some b → B ≤ b) : Below B w0 w' :=
  ⟨hg.os.trans h.os, hg.tape.trans h.tape, hg.output.trans h.output, Nat.le_trans h.size hg.size, fun k hk => (hg.block k (by omega) (fun e => by have := hr k e.symm; omega)).trans (h.block k hk)⟩
theorem news_ints {W : World} {zb zo : Nat} {zs : List Int} (h : ∀ j (h : j < zs.length), W.cell? ⟨zb, zo + j, none⟩ = some (.int .i64 zs[j])) : ∀ j u, (zs.map (Value.int .i64))[j]? = some u → W.cell? ((⟨zb, zo, none⟩ : Addr).add j) = some u := by
  intro j u hj
  rw [List.getElem?_map] at hj
  obtain ⟨z, hz, rfl⟩ := Option.map_eq_some_iff.1 hj
  obtain ⟨hlt, rfl⟩ := List.getElem?_eq_some_iff.1 hz
  rw [Go.WideShapes.add_plain]
  exact h j hlt
theorem ints_one (zs : List Int) : ∀ u ∈ zs.map (Value.int .i64), u.oneCell' = true := by
  intro u hu
  obtain ⟨z, _, rfl⟩ := List.mem_map.1 hu
  rfl
set_option maxRecDepth 100000 in
set_option maxHeartbeats 16000000 in
theorem lineFar_walk (n : Plan) (sv cv : Value) (W H : Int) (v : Value) (zs : List Int) (pos val : Int) (hls : ∀ j, j < n.spots.length → ptWf (ptAt n.spots j)) (hpos : (Lit.int .i64 pos).wf = true) (hval : (Lit.int .i64 val).wf = true) (w : World) (hp : IsPlan w n sv cv) (hv : IsInts w v zs) :
    Calls Try.prog 3 #[.agg (planA n sv cv), .agg #[.int .i64 W, .int .i64 H, v], .int .i64 pos, .int .i64 val] w fun e w' => e = .returned (.bool true) ∧ Below w.heap.size w w' := by
  have HP := hide hp
  have HV := hide hv
  have HC := hide (fun (u : World) (hu : Below w.heap.size w u) (q : Value) (l : List Int) (hq : IsInts u q l) => whole_any n sv cv W H q l u (HP.out.below hu (Nat.le_refl _)) hls hq)
  obtain ⟨⟨lo, lc, rfl, hll, _⟩, ⟨ko, kc, rfl, hkl, _⟩⟩ := hp
  obtain ⟨ao, ca, rfl, hzl, hzc⟩ := hv
  obtain ⟨hp1, hp2⟩ := wf_int hpos
  obtain ⟨hv1, hv2⟩ := wf_int hval
  have HCH := hide (fun (m : Nat) (h1 : 1 ≤ m) (h2 : m ≤ 9223372036854775807) (u : World) => choose_any pos m hp1 hp2 h1 h2 u)
  have HCV := hide (fun (u : World) => choose_any val 65536 hv1 hv2 (by omega) (by omega) u)
  clear hpos hval hp1 hp2 hv1 hv2
  obtain ⟨a1, a2⟩ := al2 w (Obj.cells (planA n (.slice lo n.spots.length lc) (.slice ko n.curve.length kc)) 28) (Obj.cells #[.int .i64 W, .int .i64 H, .slice ao zs.length ca] 31)
  have HB := hide (be2 w (Obj.cells (planA n (.slice lo n.spots.length lc) (.slice ko n.curve.length kc)) 28) (Obj.cells #[.int .i64 W, .int .i64 H, .slice ao zs.length ca] 31))
  have hl1 := (Array.getElem?_eq_some_iff.1 a1).1
  have hl2 := (Array.getElem?_eq_some_iff.1 a2).1
  have HC1 := hide (fun (u : World) (hu : Below w.heap.size w u) => HC.out u hu _ zs (HV.out.below hu (Nat.le_refl _)))
  by_cases hE : fitsE n W H zs H = 0
  case neg =>
    rw [okW, if_neg hE, okW, if_neg hE, okL, if_neg hE] at HC1
    generalize fitsE n W H zs H = E at *
    have hn : (E != 0) = true := by simpa using hE
    go_enter Try.func3, Try.ntmps3
    obtain ⟨p0, p1, p2⟩ := cells3 a2
    go_wp2_with (refine wpList_load_row rfl 28 _ rfl _ rfl _ _ _ _ a1 Try.underlying28 rfl (by kernel_rfl) ?_)
    clear p0 p1 p2
    generalize (w.alloc (Obj.cells (planA n (.slice lo n.spots.length lc) (.slice ko n.curve.length kc)) 28)).alloc (Obj.cells #[.int .i64 W, .int .i64 H, .slice ao zs.length ca] 31) = U at *
    refine (HC1.out _ HB.out).mono ?_
    rintro e w1 ⟨r, rfl, hr, hb1, hfr⟩
    obtain ⟨ro, rc, rfl, x1, x2⟩ := hr
    clear x1 x2
    rw [List.length_nil]
    have HBX := hide (HB.out.trans ((bel_trans hb1 (bel_alloc w1 (Obj.cells #[.int .i64 0, .int .i64 0, .slice ro 0 rc] 34))).mono HB.out.size))
    go_wp2_with fail
    generalize w1.alloc (Obj.cells #[.int .i64 0, .int .i64 0, .slice ro 0 rc] 34) = X at *
    refine (lineBegun_any _).mono ?_
    rintro e V0 ⟨rfl, hb0⟩
    go_wp2
    go_ret
    exact ⟨rfl, HBX.out.trans (hb0.mono HBX.out.size)⟩
  obtain ⟨h1, h2, h3⟩ := fitsE_zero hE
  obtain ⟨hW, hH, hl, _⟩ := planeOk_parts h2
  obtain ⟨WN, rfl⟩ := Int.eq_ofNat_of_zero_le (show 0 ≤ W by omega)
  obtain ⟨HN, rfl⟩ := Int.eq_ofNat_of_zero_le (show 0 ≤ H by omega)
  have hlz : zs.length = HN * WN := by rw [Nat.mul_comm]; exact_mod_cast hl
  have hW1 : 1 ≤ WN := by omega
  have hl4 : zs.length ≤ 4096 := by rw [hlz]; exact Nat.le_trans (Nat.mul_le_mul (show HN ≤ 64 by omega) (show WN ≤ 64 by omega)) (by decide)
  have hz1 : 1 ≤ zs.length := by rw [hlz]; exact Nat.mul_le_mul (show 1 ≤ HN by omega) hW1
  have HFS := hide (fun (i k : Nat) (u : Int) (hi : i < zs.length) (hk : k < zs.length) hf => @far_same n WN HN zs i k u hW1 hlz hi hk hf)
  have HSF := hide (fun (i : Nat) (u : Int) (h0 : 0 ≤ u) (h1 : u ≤ 65535) => @set_fits n WN HN zs i u hE h0 h1)
  have hDL : (dev7 n WN HN zs).length = zs.length := dev7_length _ _ _ _
  have HDL2 := hide (fun (i : Nat) (u : Int) => show (dev7 n WN HN (zs.set i u)).length = zs.length by rw [dev7_length, List.length_set])
  rw [hE, show okW 0 (WN : Int) = WN from rfl, show okW 0 (HN : Int) = HN from rfl, show okL 0 (dev7 n WN HN zs) = dev7 n WN HN zs from rfl] at HC1
  generalize dev7 n WN HN zs = D at *
  have HDL := hide hDL
  clear hDL hE h1 h2 h3 hl hlz
  obtain ⟨zb, zo, rfl, hzb, hzc⟩ : ∃ zb zo, ao = some ⟨zb, zo, none⟩ ∧ zb < w.heap.size ∧ ∀ j (h : j < zs.length), w.cell? ⟨zb, zo + j, none⟩ = some (.int .i64 zs[j]) := by
    rcases hzc with hzc | ⟨zb, zo, h1, h2, h3⟩
    · rw [hzc] at hz1; simp at hz1
    · exact ⟨zb, zo, h1, h2, h3⟩
  have HZC := hide hzc
  clear hzc
  go_enter Try.func3, Try.ntmps3
  obtain ⟨p0, p1, p2⟩ := cells3 a2
  go_wp2_with (refine wpList_load_row rfl 28 _ rfl _ rfl _ _ _ _ a1 Try.underlying28 rfl (by kernel_rfl) ?_)
  clear p0 p1 p2
  generalize (w.alloc (Obj.cells (planA n (.slice lo n.spots.length lc) (.slice ko n.curve.length kc)) 28)).alloc (Obj.cells #[.int .i64 WN, .int .i64 HN, .slice (some ⟨zb, zo, none⟩) zs.length ca] 31) = U at *
  refine (HC1.out _ HB.out).mono ?_
  rintro e w1 ⟨r, rfl, hr, hb1, hfr⟩
  have HR := hide hr
  obtain ⟨ro, rc, rfl, x1, x2⟩ := hr
  clear x1 x2 hfr
  rw [HDL.out] at HR ⊢
  have g1 := al1 w1 (Obj.cells #[.int .i64 WN, .int .i64 HN, .slice ro zs.length rc] 34)
  have hx := bel_trans hb1 (bel_alloc w1 (Obj.cells #[.int .i64 WN, .int .i64 HN, .slice ro zs.length rc] 34))
  replace HR := hide (HR.out.alloc (Obj.cells #[.int .i64 WN, .int .i64 HN, .slice ro zs.length rc] 34))
  obtain ⟨p0, p1, p2⟩ := cells3 ((hx.block _ hl2).trans a2)
  have hd0 : decide (zs.length = 0) = false := decide_eq_false (by omega)
  go_wp2_with fail
  clear p0 p1 p2
  have q1 := (Array.getElem?_eq_some_iff.1 g1).1
  have hw1 := hb1.size
  generalize w1.alloc (Obj.cells #[.int .i64 WN, .int .i64 HN, .slice ro zs.length rc] 34) = X at *
  generalize w1.heap.size = QB at *
  refine (HCH.out zs.length hz1 (by omega) _).mono ?_
  rintro e V0 ⟨⟨i, hi, rfl⟩, rfl⟩
  go_upto_region 7 with fail
  have HXU := hide (HB.out.trans (hx.mono HB.out.size))
  have HS := hide (show ∀ v, Below X.heap.size X v → v.cell? ⟨w.heap.size + 1, 0, none⟩ = some (.int .i64 WN) ∧ v.cell? ⟨w.heap.size + 1, 1, none⟩ = some (.int .i64 HN) ∧ v.cell? ⟨w.heap.size + 1, 2, none⟩ = some (.slice (some ⟨zb, zo, none⟩) zs.length ca) from fun v h => cells3 (((bel_trans hx h).block _ hl2).trans a2))
  have HZ := hide (show ∀ v, Below X.heap.size X v → ∀ j (h : j < zs.length), v.cell? ⟨zb, zo + j, none⟩ = some (.int .i64 zs[j]) from fun v h j hj => ((HXU.out.trans (h.mono HXU.out.size)).cell (p := ⟨zb, zo + j, none⟩) hzb).trans (HZC.out j hj))
  go_cut [12] from 13 (fun q v => ∃ OX ob cap, q = .pointer (some ⟨OX, 0, none⟩) ∧ v.heap[OX]? = some (.cells #[.int .i64 WN, .int .i64 HN, .slice (some ⟨ob, 0, none⟩) zs.length cap] 31 (0, 0)) ∧ v.ownsRow X.heap.size 3 1 (.slice (some ⟨ob, 0, none⟩) zs.length cap) zs.length (zs.map (Value.int .i64)) ∧ X.heap.size ≤ OX ∧ X.heap.size ≤ ob ∧ OX ≠ ob ∧ Below X.heap.size X v)
  case first =>
    obtain ⟨i0, hi0, hz0, hzz1, hz2⟩ := info_parts Try.infoInt
    have hWd : Below X.heap.size X X.drew := (Below.refl _ _).drew
    have hSd := HS.out _ hWd
    have hmx : Try.prog.follows .mixedOrders = true := by kernel_rfl
    refine wp_region_last (S := fun v : World => v.cell? ⟨w.heap.size + 1, 0, none⟩ = some (.int .i64 WN) ∧ v.cell? ⟨w.heap.size + 1, 1, none⟩ = some (.int .i64 HN) ∧ v.cell? ⟨w.heap.size + 1, 2, none⟩ = some (.slice (some ⟨zb, zo, none⟩) zs.length ca)) (f := 10) hmx ?_
    show wpAnyF _ _ _ _ _ _ 11 _ _ X.drew
    refine wpAnyF_takeP (i := 0) (oi := _) (v := ?vv1) (some 35) [] rfl rfl (by kernel_rfl) (by kernel_rfl) (by kernel_rfl) (by kernel_rfl) (by kernel_rfl) (fun _ _ _ h => h) (Or.inl ⟨by rfl, ?yy1⟩) hSd ?rr1
    case yy1 => (intro wq hSq; obtain ⟨_, _, _⟩ := hSq; go_simp <;> with_reducible rfl)
    simp only [Act.put, List.setIfInBounds_toArray, List.set_cons_succ, List.set_cons_zero]
    refine wpAnyF_takeP (i := 2) (oi := _) (v := ?vv2) (some 37) [] rfl rfl (by kernel_rfl) (by kernel_rfl) (by kernel_rfl) (by kernel_rfl) (by kernel_rfl) (fun _ _ _ h => h) (Or.inl ⟨by rfl, ?yy2⟩) hSd ?rr2
    case yy2 => (intro wq hSq; obtain ⟨_, _, _⟩ := hSq; go_simp <;> with_reducible rfl)
    simp only [Act.put, List.setIfInBounds_toArray, List.set_cons_succ, List.set_cons_zero]
    refine wpAnyF_takeP (i := 5) (oi := _) (v := ?vv3) (some 40) [] rfl rfl (by kernel_rfl) (by kernel_rfl) (by kernel_rfl) (by kernel_rfl) (by kernel_rfl) (fun _ _ _ h => h) (Or.inl ⟨by rfl, ?yy3⟩) hSd ?rr3
    case yy3 => (intro wq hSq; obtain ⟨_, _, _⟩ := hSq; go_simp <;> with_reducible rfl)
    simp only [Act.put, List.setIfInBounds_toArray, List.set_cons_succ, List.set_cons_zero]
    refine wpAnyF_takeP (i := 1) (oi := _) (v := ?vv4) (some 36) [] rfl rfl (by kernel_rfl) (by kernel_rfl) (by kernel_rfl) (by kernel_rfl) (by kernel_rfl) (fun _ _ _ h => h) (Or.inl ⟨by rfl, ?yy4⟩) hSd ?rr4
    case yy4 => (intro wq hSq; obtain ⟨_, _, _⟩ := hSq; go_simp <;> with_reducible rfl)
    simp only [Act.put, List.setIfInBounds_toArray, List.set_cons_succ, List.set_cons_zero]
    refine wpAnyF_takeP (i := 3) (oi := _) (v := ?vv5) (some 38) [] rfl rfl (by kernel_rfl) (by kernel_rfl) (by kernel_rfl) (by kernel_rfl) (by kernel_rfl) (fun _ _ _ h => h) (Or.inl ⟨by rfl, ?yy5⟩) hSd ?rr5
    case yy5 => (intro wq hSq; obtain ⟨_, _, _⟩ := hSq; go_simp <;> with_reducible rfl)
    simp only [Act.put, List.setIfInBounds_toArray, List.set_cons_succ, List.set_cons_zero]
    refine wpAnyF_takeP (i := 6) (oi := _) (v := ?vv6) (some 41) [] rfl rfl (by kernel_rfl) (by kernel_rfl) (by kernel_rfl) (by kernel_rfl) (by kernel_rfl) (fun _ _ _ h => h) (Or.inl ⟨by rfl, ?yy6⟩) hSd ?rr6
    case yy6 => (intro wq hSq; obtain ⟨_, _, _⟩ := hSq; go_simp <;> with_reducible rfl)
    simp only [Act.put, List.setIfInBounds_toArray, List.set_cons_succ, List.set_cons_zero]
    refine wpAnyF_two (i := 4) (j := 9) (oi := _) (oj := _) (by kernel_rfl) rfl rfl (fun K' hK => ?brA) (fun K' hK => ?brB)
    case brA =>
      rw [if_pos (by rfl)]
      go_simp
      have hBe : Below X.heap.size X (X.alloc (Obj.cells #[] 3)).drew := (bel_alloc X _).drew
      have hSd := HS.out _ hBe
      refine hK.out _ _ hSd ?_
      clear hK
      try simp only [Act.put]
      have hoe := (World.ownsRow_lit (base := X.heap.size) (e := 3) (size := 1) X #[] 0 (Nat.le_refl _) (Nat.zero_le _) rfl).drew
      refine wpAnyF_two (i := 7) (j := 9) (oi := _) (oj := _) (by kernel_rfl) rfl rfl (fun K' hK => ?brC) (fun K' hK => ?brD)
      case brC =>
        refine step_append_lies _ rfl _ _ 29 rfl X.heap.size 3 i0 (.int .i64 0) 1 8 Try.underlying29 hi0 hz0 hzz1 hz2 rfl Nat.one_pos (.slice (some ⟨X.heap.size, 0, none⟩) 0 0) 0 [] rfl hoe _ zs.length ca (zs.map (Value.int .i64)) rfl (by simp) (news_ints (HZ.out _ hBe)) (ints_one zs) (by omega) (by unfold maxLen; omega) (by omega) hBe.size _ rfl ?_
        intro g cap wa hown hgr _ hga
        simp only [Nat.zero_add, List.nil_append] at hown ⊢
        have hBa := bel_grown hBe hBe.size hgr (fun b hb => by simp [Value.ownBlock] at hb; omega)
        have hSd := HS.out _ hBa
        refine hK.out _ _ hSd ?_
        clear hK
        try simp only [Act.put]
        refine wpAnyF_takeP (i := 8) (oi := _) (v := ?vv7) (some 43) [] rfl rfl (by kernel_rfl) (by kernel_rfl) (by kernel_rfl) (by kernel_rfl) (by kernel_rfl) (fun _ _ _ h => h) (Or.inl ⟨by rfl, ?yy7⟩) hSd ?rr7
        case yy7 => (intro wq hSq; obtain ⟨_, _, _⟩ := hSq; go_simp <;> with_reducible rfl)
        try simp only [Act.put]
        refine wpAnyF_one (i := 9) (o := _) (by kernel_rfl) rfl (fun K' hK => ?_)
        rw [if_pos (by rfl)]
        go_simp
        have hBz : Below X.heap.size X (wa.alloc (Obj.cells #[.int .i64 0, .int .i64 0, .slice none 0 0] 31)) := hBa.alloc hBa.size _
        have hSd := HS.out _ hBz
        refine hK.out _ _ hSd ?_
        clear hK
        try simp only [Act.put]
        refine wpAnyF_last (o := _) (by kernel_rfl) rfl (fun K' hK => ?_)
        rw [if_pos (by rfl)]
        go_simp
        refine hK.out _ _ ?_
        clear hK
        refine wpAnyF_done (by kernel_rfl) ?_ _
        try simp only [Act.put]
        clear hSd
        go_wp2
        go_meet
        case rel => exact ⟨wa.heap.size, g, cap, rfl, al1 wa _, hown.alloc _, hBa.size, (hown.lt g rfl).1, by omega, hBa.alloc hBa.size _⟩
      case brD =>
        rw [if_pos (by rfl)]
        go_simp
        have hBz : Below X.heap.size X ((X.alloc (Obj.cells #[] 3)).alloc (Obj.cells #[.int .i64 0, .int .i64 0, .slice none 0 0] 31)).drew := (be2 X _ _).drew
        have hSd := HS.out _ hBz
        refine hK.out _ _ hSd ?_
        clear hK
        try simp only [Act.put]
        have hoz := ((World.ownsRow_lit (base := X.heap.size) (e := 3) (size := 1) X #[] 0 (Nat.le_refl _) (Nat.zero_le _) rfl).alloc (Obj.cells #[.int .i64 0, .int .i64 0, .slice none 0 0] 31)).drew
        refine wpAnyF_one (i := 7) (o := _) (by kernel_rfl) rfl (fun K' hK => ?_)
        refine step_append_lies _ rfl _ _ 29 rfl X.heap.size 3 i0 (.int .i64 0) 1 8 Try.underlying29 hi0 hz0 hzz1 hz2 rfl Nat.one_pos (.slice (some ⟨X.heap.size, 0, none⟩) 0 0) 0 [] rfl hoz _ zs.length ca (zs.map (Value.int .i64)) rfl (by simp) (news_ints (HZ.out _ hBz)) (ints_one zs) (by omega) (by unfold maxLen; omega) (by omega) hBz.size _ rfl ?_
        intro g cap wa hown hgr _ hga
        simp only [Nat.zero_add, List.nil_append] at hown ⊢
        have hBa := bel_grown hBz hBz.size hgr (fun b hb => by simp [Value.ownBlock] at hb; omega)
        have hSd := HS.out _ hBa
        refine hK.out _ _ hSd ?_
        clear hK
        try simp only [Act.put]
        refine wpAnyF_takeP (i := 8) (oi := _) (v := ?vv8) (some 43) [] rfl rfl (by kernel_rfl) (by kernel_rfl) (by kernel_rfl) (by kernel_rfl) (by kernel_rfl) (fun _ _ _ h => h) (Or.inl ⟨by rfl, ?yy8⟩) hSd ?rr8
        case yy8 => (intro wq hSq; obtain ⟨_, _, _⟩ := hSq; go_simp <;> with_reducible rfl)
        try simp only [Act.put]
        have hgo := hown.lt g rfl
        have kz := (hgr.block _ (Array.getElem?_eq_some_iff.1 (show ((X.alloc (Obj.cells #[] 3)).alloc (Obj.cells #[.int .i64 0, .int .i64 0, .slice none 0 0] 31)).drew.heap[X.heap.size + 1]? = _ from (al2 X (Obj.cells #[] 3) (Obj.cells #[.int .i64 0, .int .i64 0, .slice none 0 0] 31)).2)).1 (by simp [Value.ownBlock])).trans (show ((X.alloc (Obj.cells #[] 3)).alloc (Obj.cells #[.int .i64 0, .int .i64 0, .slice none 0 0] 31)).drew.heap[X.heap.size + 1]? = _ from (al2 X (Obj.cells #[] 3) (Obj.cells #[.int .i64 0, .int .i64 0, .slice none 0 0] 31)).2)
        have hne : (X.heap.size + 1) ≠ g := fun e => by
          subst e
          obtain ⟨g2, c2, cur, he, _, hc, _⟩ := hown.2.resolve_left (fun h => by cases h.1)
          cases he
          rw [hc] at kz
          cases kz
        obtain ⟨z0, z1, z2⟩ := cells3 kz
        have f0 := Lib.frozen_of_heap kz 0
        have f1 := Lib.frozen_of_heap kz 1
        have f2 := Lib.frozen_of_heap kz 2
        obtain ⟨y1, y2, y3, y4⟩ := box3_set kz (.int .i64 WN) (.int .i64 HN) (.slice (some ⟨g, 0, none⟩) zs.length cap) X (by omega) hBa
        have hos := own_set3 hown (k := X.heap.size + 1) (fun e => hne (by simpa [Value.ownBlock] using e.symm)) (.int .i64 WN) (.int .i64 HN) (.slice (some ⟨g, 0, none⟩) zs.length cap)
        refine wpAnyF_last (o := _) (by kernel_rfl) rfl (fun K' hK => ?_)
        rw [if_pos (by rfl)]
        go_simp
        refine hK.out _ _ ?_
        clear hK
        refine wpAnyF_done (by kernel_rfl) ?_ _
        try simp only [Act.put]
        clear hSd
        go_wp2
        go_meet
        case rel => exact ⟨X.heap.size + 1, g, cap, rfl, y1, hos, by omega, hgo.1, hne, y4⟩
    case brB =>
      rw [if_pos (by rfl)]
      go_simp
      have hBy : Below X.heap.size X (X.alloc (Obj.cells #[.int .i64 0, .int .i64 0, .slice none 0 0] 31)).drew := (bel_alloc X _).drew
      have hSd := HS.out _ hBy
      refine hK.out _ _ hSd ?_
      clear hK
      try simp only [Act.put]
      refine wpAnyF_one (i := 4) (o := _) (by kernel_rfl) rfl (fun K' hK => ?_)
      rw [if_pos (by rfl)]
      go_simp
      have hBz : Below X.heap.size X ((X.alloc (Obj.cells #[.int .i64 0, .int .i64 0, .slice none 0 0] 31)).alloc (Obj.cells #[] 3)).drew := (be2 X _ _).drew
      have hSd := HS.out _ hBz
      refine hK.out _ _ hSd ?_
      clear hK
      try simp only [Act.put]
      have hoz := (World.ownsRow_lit (base := X.heap.size) (e := 3) (size := 1) (X.alloc (Obj.cells #[.int .i64 0, .int .i64 0, .slice none 0 0] 31)) #[] 0 (by simp) (Nat.zero_le _) rfl).drew
      rw [World.size_alloc] at hoz
      refine wpAnyF_one (i := 7) (o := _) (by kernel_rfl) rfl (fun K' hK => ?_)
      refine step_append_lies _ rfl _ _ 29 rfl X.heap.size 3 i0 (.int .i64 0) 1 8 Try.underlying29 hi0 hz0 hzz1 hz2 rfl Nat.one_pos (.slice (some ⟨X.heap.size + 1, 0, none⟩) 0 0) 0 [] rfl hoz _ zs.length ca (zs.map (Value.int .i64)) rfl (by simp) (news_ints (HZ.out _ hBz)) (ints_one zs) (by omega) (by unfold maxLen; omega) (by omega) hBz.size _ rfl ?_
      intro g cap wa hown hgr _ hga
      simp only [Nat.zero_add, List.nil_append] at hown ⊢
      have hBa := bel_grown hBz hBz.size hgr (fun b hb => by simp [Value.ownBlock] at hb; omega)
      have hSd := HS.out _ hBa
      refine hK.out _ _ hSd ?_
      clear hK
      try simp only [Act.put]
      refine wpAnyF_takeP (i := 8) (oi := _) (v := ?vv9) (some 43) [] rfl rfl (by kernel_rfl) (by kernel_rfl) (by kernel_rfl) (by kernel_rfl) (by kernel_rfl) (fun _ _ _ h => h) (Or.inl ⟨by rfl, ?yy9⟩) hSd ?rr9
      case yy9 => (intro wq hSq; obtain ⟨_, _, _⟩ := hSq; go_simp <;> with_reducible rfl)
      try simp only [Act.put]
      have hgo := hown.lt g rfl
      have kz := (hgr.block _ (Array.getElem?_eq_some_iff.1 (show ((X.alloc (Obj.cells #[.int .i64 0, .int .i64 0, .slice none 0 0] 31)).alloc (Obj.cells #[] 3)).drew.heap[X.heap.size]? = _ from (al2 X (Obj.cells #[.int .i64 0, .int .i64 0, .slice none 0 0] 31) (Obj.cells #[] 3)).1)).1 (by simp [Value.ownBlock])).trans (show ((X.alloc (Obj.cells #[.int .i64 0, .int .i64 0, .slice none 0 0] 31)).alloc (Obj.cells #[] 3)).drew.heap[X.heap.size]? = _ from (al2 X (Obj.cells #[.int .i64 0, .int .i64 0, .slice none 0 0] 31) (Obj.cells #[] 3)).1)
      have hne : (X.heap.size) ≠ g := fun e => by
        subst e
        obtain ⟨g2, c2, cur, he, _, hc, _⟩ := hown.2.resolve_left (fun h => by cases h.1)
        cases he
        rw [hc] at kz
        cases kz
      obtain ⟨z0, z1, z2⟩ := cells3 kz
      have f0 := Lib.frozen_of_heap kz 0
      have f1 := Lib.frozen_of_heap kz 1
      have f2 := Lib.frozen_of_heap kz 2
      obtain ⟨y1, y2, y3, y4⟩ := box3_set kz (.int .i64 WN) (.int .i64 HN) (.slice (some ⟨g, 0, none⟩) zs.length cap) X (by omega) hBa
      have hos := own_set3 hown (k := X.heap.size) (fun e => hne (by simpa [Value.ownBlock] using e.symm)) (.int .i64 WN) (.int .i64 HN) (.slice (some ⟨g, 0, none⟩) zs.length cap)
      refine wpAnyF_last (o := _) (by kernel_rfl) rfl (fun K' hK => ?_)
      rw [if_pos (by rfl)]
      go_simp
      refine hK.out _ _ ?_
      clear hK
      refine wpAnyF_done (by kernel_rfl) ?_ _
      try simp only [Act.put]
      clear hSd
      go_wp2
      go_meet
      case rel => exact ⟨X.heap.size, g, cap, rfl, y1, hos, by omega, hgo.1, hne, y4⟩
  case rest =>
    obtain ⟨OX, ob, cap, rfl, c1, hown, hOX, hob, hOo, vB⟩ := hcut
    have hlO := (Array.getElem?_eq_some_iff.1 c1).1
    have hix : (i : Int) < (zs.length : Int) := by omega
    have hiy : i < zs.length := hi
    go_upto_region 8 with fail
    have HS2 := hide (show ∀ v, Below wc.heap.size wc v → v.cell? ⟨OX, 2, none⟩ = some (.slice (some ⟨ob, 0, none⟩) zs.length cap) from fun v h => (cells3 ((h.block _ hlO).trans c1)).2.2)
    have hWd : Below wc.heap.size wc wc.drew := (Below.refl _ _).drew
    have hSd := HS2.out _ hWd
    have k0 : wc.cell? ⟨ob, i, none⟩ = some (.int .i64 zs[i]) := by rw [hown.cellAt i (by omega), List.getElem?_map, List.getElem?_eq_getElem hi]; rfl
    have k1 := hown.frozenAt i
    have HOW := hide hown
    have hmx : Try.prog.follows .mixedOrders = true := by kernel_rfl
    refine wp_region_last (S := fun v : World => v.cell? ⟨OX, 2, none⟩ = some (.slice (some ⟨ob, 0, none⟩) zs.length cap)) (f := 6) hmx ?_
    show wpAnyF _ _ _ _ _ _ 7 _ _ wc.drew
    refine wpAnyF_takeP (i := 0) (oi := _) (v := ?vv10) (some 44) [] rfl rfl (by kernel_rfl) (by kernel_rfl) (by kernel_rfl) (by kernel_rfl) (by kernel_rfl) (fun _ _ _ h => h) (Or.inl ⟨by rfl, ?yy10⟩) hSd ?rr10
    case yy10 => (intro wq hSq; obtain hq := hSq; go_simp <;> with_reducible rfl)
    simp only [Act.put, List.setIfInBounds_toArray, List.set_cons_succ, List.set_cons_zero]
    refine wpAnyF_takeP (i := 2) (oi := _) (v := ?vv11) (some 46) [] rfl rfl (by kernel_rfl) (by kernel_rfl) (by kernel_rfl) (by kernel_rfl) (by kernel_rfl) (fun _ _ _ h => h) (Or.inl ⟨by rfl, ?yy11⟩) hSd ?rr11
    case yy11 => (intro wq hSq; obtain hq := hSq; go_simp <;> with_reducible rfl)
    simp only [Act.put, List.setIfInBounds_toArray, List.set_cons_succ, List.set_cons_zero]
    refine wpAnyF_takeP (i := 3) (oi := _) (v := ?vv12) (some 47) [] rfl rfl (by kernel_rfl) (by kernel_rfl) (by kernel_rfl) (by kernel_rfl) (by kernel_rfl) (fun _ _ _ h => h) (Or.inl ⟨by rfl, ?yy12⟩) hSd ?rr12
    case yy12 => (intro wq hSq; obtain hq := hSq; go_simp <;> with_reducible rfl)
    simp only [Act.put, List.setIfInBounds_toArray, List.set_cons_succ, List.set_cons_zero]
    refine wpAnyF_takeP (i := 1) (oi := _) (v := ?vv13) (some 45) [] rfl rfl (by kernel_rfl) (by kernel_rfl) (by kernel_rfl) (by kernel_rfl) (by kernel_rfl) (fun _ _ _ h => h) (Or.inl ⟨by rfl, ?yy13⟩) hSd ?rr13
    case yy13 => (intro wq hSq; obtain hq := hSq; go_simp <;> with_reducible rfl)
    simp only [Act.put, List.setIfInBounds_toArray, List.set_cons_succ, List.set_cons_zero]
    refine wpAnyF_one (i := 4) (o := _) (by kernel_rfl) rfl (fun K' hK => ?_)
    rw [if_pos (by rfl)]
    go_simp
    refine (HCV.out _).mono ?_
    rintro e V1 ⟨⟨u, hu, rfl⟩, rfl⟩
    have hSd := hSd
    refine hK.out _ _ hSd ?_
    clear hK
    try simp only [Act.put]
    refine wpAnyF_takeP (i := 5) (oi := _) (v := ?vv14) (some 49) [] rfl rfl (by kernel_rfl) (by kernel_rfl) (by kernel_rfl) (by kernel_rfl) (by kernel_rfl) (fun _ _ _ h => h) (Or.inl ⟨by rfl, ?yy14⟩) hSd ?rr14
    case yy14 => (intro wq hSq; obtain hq := hSq; go_simp <;> with_reducible rfl)
    simp only [Act.put, List.setIfInBounds_toArray, List.set_cons_succ, List.set_cons_zero]
    refine wpAnyF_last (o := _) (by kernel_rfl) rfl (fun K' hK => ?_)
    rw [if_pos (by rfl)]
    go_simp
    refine hK.out _ _ ?_
    clear hK
    refine wpAnyF_done (by kernel_rfl) ?_ _
    try simp only [Act.put]
    clear hSd k0 k1
    obtain ⟨hos, hgr⟩ := HOW.out.stored i (.int .i64 u)
    have hos2 : (wc.setCell ⟨ob, i, none⟩ (.int .i64 u)).ownsRow X.heap.size 3 1 (.slice (some ⟨ob, 0, none⟩) zs.length cap) (zs.set i u).length ((zs.set i u).map (Value.int .i64)) := by
      rw [List.length_set, List.map_set]; exact hos
    have HIN := hide (show IsInts (wc.setCell ⟨ob, i, none⟩ (.int .i64 u)).drew (.slice (some ⟨ob, 0, none⟩) zs.length cap) (zs.set i u) from by
      have h := IsInts.own hos2 (by rw [List.length_set]; omega)
      exact h)
    have vC : Below X.heap.size X (wc.setCell ⟨ob, i, none⟩ (.int .i64 u)).drew := (bel_grown vB (Nat.le_trans (Nat.le_refl _) vB.size) hgr (fun b hb => by cases hb; exact hob)).drew
    have c2 : (wc.setCell ⟨ob, i, none⟩ (.int .i64 u)).drew.heap[OX]? = _ := (hgr.block OX hlO (fun e => hOo (Option.some.inj e))).trans c1
    have hu2 : u ≤ 65535 := by omega
    clear hos hos2 hgr HOW HS2 hu
    generalize (wc.setCell ⟨ob, i, none⟩ (.int .i64 u)).drew = Y at *
    have vU := bel_trans hx vC
    have HBY := hide (HB.out.trans (vU.mono HB.out.size))
    have b1 := (vU.block _ hl1).trans a1
    obtain ⟨p0, p1, p2⟩ := cells3 c2
    go_wp2_with (refine wpList_load_row rfl 28 _ rfl _ rfl _ _ _ _ b1 Try.underlying28 rfl (by kernel_rfl) ?_)
    clear p0 p1 p2 b1
    have HC2 := HC.out _ HBY.out _ _ HIN.out
    rw [HSF.out i u (by omega) (by omega), show okW 0 (WN : Int) = WN from rfl, show okW 0 (HN : Int) = HN from rfl, show okL 0 (dev7 n WN HN (zs.set i u)) = dev7 n WN HN (zs.set i u) from rfl] at HC2
    refine HC2.mono ?_
    rintro e w5 ⟨r5, rfl, hr5, hb5, _⟩
    have HFX := hide (fun k hk hf => HFS.out i k u hi hk hf)
    have hD2 := HDL2.out i u
    generalize dev7 n WN HN (zs.set i u) = D2 at *
    have HR5 := hide hr5
    obtain ⟨so, sc, rfl, x1, x2⟩ := hr5
    clear x1 x2 HC2
    rw [hD2] at HR5 ⊢
    have g5 := al1 w5 (Obj.cells #[.int .i64 WN, .int .i64 HN, .slice so zs.length sc] 34)
    have hy := bel_trans hb5 (bel_alloc w5 (Obj.cells #[.int .i64 WN, .int .i64 HN, .slice so zs.length sc] 34))
    replace HR5 := hide (HR5.out.alloc (Obj.cells #[.int .i64 WN, .int .i64 HN, .slice so zs.length sc] 34))
    have vX := bel_trans vC hy
    have HR1 := hide (HR.out.below vX (Nat.le_refl _))
    have g1' := (vX.block _ q1).trans g1
    have vU2 := bel_trans vU hy
    obtain ⟨p0, p1, p2⟩ := cells3 ((vU2.block _ hl2).trans a2)
    obtain ⟨r0, r1, r2⟩ := cells3 g1'
    obtain ⟨s0, s1, s2⟩ := cells3 g5
    have hnn : ((zs.length : Int) != (zs.length : Int)) = false := by simp
    have HBZ := hide (HB.out.trans (vU2.mono HB.out.size))
    go_wp2_with fail
    generalize w5.alloc (Obj.cells #[.int .i64 WN, .int .i64 HN, .slice so zs.length sc] 34) = Z at *
    generalize w5.heap.size = RB at *
    have hD1 := HDL.out
    obtain ⟨x, y, hxe, hxl, hxc⟩ := HR1.out
    rw [hD1] at hxe
    cases hxe
    rcases hxc with hxc | ⟨qb, qf, rfl, hqb, hqc⟩
    · rw [hxc] at hD1; simp at hD1; omega
    obtain ⟨x, y, hxe, hxl, hxc⟩ := HR5.out
    rw [hD2] at hxe
    cases hxe
    rcases hxc with hxc | ⟨tb, tf, rfl, htb, htc⟩
    · rw [hxc] at hD2; simp at hD2; omega
    have HQC := hide (fun k (hk : k < zs.length) => by have h := hqc k (by rw [hD1]; exact hk); rw [pxAt_get _ _ (by rw [hD1]; exact hk)] at h; exact h)
    have HTC := hide (fun k (hk : k < zs.length) => by have h := htc k (by rw [hD2]; exact hk); rw [pxAt_get _ _ (by rw [hD2]; exact hk)] at h; exact h)
    clear hqc htc
    have HSZ := hide (show ∀ v, Below Z.heap.size Z v → v.cell? ⟨w.heap.size + 1, 0, none⟩ = some (.int .i64 WN) ∧ v.cell? ⟨QB, 2, none⟩ = some (.slice (some ⟨qb, qf, none⟩) zs.length rc) ∧ v.cell? ⟨RB, 2, none⟩ = some (.slice (some ⟨tb, tf, none⟩) zs.length sc) from fun v h => ⟨(cells3 (((bel_trans vU2 h).block _ hl2).trans a2)).1, (cells3 ((h.block _ (Array.getElem?_eq_some_iff.1 g1').1).trans g1')).2.2, (cells3 ((h.block _ (Array.getElem?_eq_some_iff.1 g5).1).trans g5)).2.2⟩)
    clear r0 r1 r2 s0 s1 s2
    go_loopw [15] (fun j wr => ∃ k : Nat, k ≤ zs.length ∧ j = .int .i64 k ∧ ∃ m, wr = Z.drewN m) (fun j _ => zs.length - (intOf j).toNat)
    case atStart => exact ⟨0, Nat.zero_le _, rfl, 0, rfl⟩
    case round =>
      obtain ⟨k, hk, rfl, m, rfl⟩ := hrel
      by_cases hlt : k < zs.length
      · have HZm := hide (show Below Z.heap.size Z (Z.drewN m) from below_drewN (Below.refl _ _) m)
        obtain ⟨QK, hQK⟩ : ∃ QK, k / WN = QK := ⟨_, rfl⟩
        obtain ⟨QI, hQI⟩ : ∃ QI, i / WN = QI := ⟨_, rfl⟩
        have hWz : ¬ (WN : Int) = 0 := by omega
        have hWz2 : ¬ WN = 0 := by omega
        have d1 : (k : Int).tdiv (WN : Int) = (QK : Int) := by rw [← hQK]; rfl
        have d2 : (i : Int).tdiv (WN : Int) = (QI : Int) := by rw [← hQI]; rfl
        have hq1 : QK ≤ k := by rw [← hQK]; exact Nat.div_le_self _ _
        have hq2 : QI ≤ i := by rw [← hQI]; exact Nat.div_le_self _ _
        have HFK := hide (show QI + 4 < QK ∨ QK + 4 < QI → pxAt D k = pxAt D2 k by rw [← hQK, ← hQI]; exact HFX.out k hlt)
        have w1 : IntKind.i64.wrap ((QK : Int) - (QI : Int)) = (QK : Int) - (QI : Int) := IntWalk.i64_in _ (by omega)
        have w2 : IntKind.i64.wrap (QK : Int) = (QK : Int) := IntWalk.i64_in _ (by omega)
        have w3 : IntKind.i64.wrap (QI : Int) = (QI : Int) := IntWalk.i64_in _ (by omega)
        clear hQK hQI
        go_upto_region 15 with fail
        have hWd : Below Z.heap.size Z (Z.drewN m).drew := HZm.out.drew
        have hSd := (HSZ.out _ hWd).1
        have hmx : Try.prog.follows .mixedOrders = true := by kernel_rfl
        refine wp_region_last (S := fun v : World => v.cell? ⟨w.heap.size + 1, 0, none⟩ = some (.int .i64 WN)) (f := 9) hmx ?_
        show wpAnyF _ _ _ _ _ _ 10 _ _ (Z.drewN m).drew
        refine wpAnyF_takeP (i := 0) (oi := _) (v := ?vv15) (some 83) [] rfl rfl (by kernel_rfl) (by kernel_rfl) (by kernel_rfl) (by kernel_rfl) (by kernel_rfl) (fun _ _ _ h => h) (Or.inl ⟨by rfl, ?yy15⟩) hSd ?rr15
        case yy15 => (intro wq hSq; obtain hq := hSq; go_simp <;> with_reducible rfl)
        simp only [Act.put, List.setIfInBounds_toArray, List.set_cons_succ, List.set_cons_zero]
        refine wpAnyF_takeP (i := 1) (oi := _) (v := ?vv16) (some 84) [] rfl rfl (by kernel_rfl) (by kernel_rfl) (by kernel_rfl) (by kernel_rfl) (by kernel_rfl) (fun _ _ _ h => h) (Or.inl ⟨by rfl, ?yy16⟩) hSd ?rr16
        case yy16 => (intro wq hSq; obtain hq := hSq; go_simp <;> with_reducible rfl)
        simp only [Act.put, List.setIfInBounds_toArray, List.set_cons_succ, List.set_cons_zero]
        refine wpAnyF_takeP (i := 4) (oi := _) (v := ?vv17) (some 87) [] rfl rfl (by kernel_rfl) (by kernel_rfl) (by kernel_rfl) (by kernel_rfl) (by kernel_rfl) (fun _ _ _ h => h) (Or.inl ⟨by rfl, ?yy17⟩) hSd ?rr17
        case yy17 => (intro wq hSq; obtain hq := hSq; go_simp <;> with_reducible rfl)
        simp only [Act.put, List.setIfInBounds_toArray, List.set_cons_succ, List.set_cons_zero]
        refine wpAnyF_takeP (i := 5) (oi := _) (v := ?vv18) (some 88) [] rfl rfl (by kernel_rfl) (by kernel_rfl) (by kernel_rfl) (by kernel_rfl) (by kernel_rfl) (fun _ _ _ h => h) (Or.inl ⟨by rfl, ?yy18⟩) hSd ?rr18
        case yy18 => (intro wq hSq; obtain hq := hSq; go_simp <;> with_reducible rfl)
        simp only [Act.put, List.setIfInBounds_toArray, List.set_cons_succ, List.set_cons_zero]
        refine wpAnyF_takeP (i := 2) (oi := _) (v := ?vv19) (some 85) [] rfl rfl (by kernel_rfl) (by kernel_rfl) (by kernel_rfl) (by kernel_rfl) (by kernel_rfl) (fun _ _ _ h => h) (Or.inl ⟨by rfl, ?yy19⟩) hSd ?rr19
        case yy19 => (intro wq hSq; obtain hq := hSq; go_simp <;> with_reducible rfl)
        simp only [Act.put, List.setIfInBounds_toArray, List.set_cons_succ, List.set_cons_zero]
        refine wpAnyF_takeP (i := 6) (oi := _) (v := ?vv20) (some 89) [] rfl rfl (by kernel_rfl) (by kernel_rfl) (by kernel_rfl) (by kernel_rfl) (by kernel_rfl) (fun _ _ _ h => h) (Or.inl ⟨by rfl, ?yy20⟩) hSd ?rr20
        case yy20 => (intro wq hSq; obtain hq := hSq; go_simp <;> with_reducible rfl)
        simp only [Act.put, List.setIfInBounds_toArray, List.set_cons_succ, List.set_cons_zero]
        refine wpAnyF_takeP (i := 3) (oi := _) (v := ?vv21) (some 86) [] rfl rfl (by kernel_rfl) (by kernel_rfl) (by kernel_rfl) (by kernel_rfl) (by kernel_rfl) (fun _ _ _ h => h) (Or.inl ⟨by rfl, ?yy21⟩) hSd ?rr21
        case yy21 => (intro wq hSq; obtain hq := hSq; go_simp <;> with_reducible rfl)
        simp only [Act.put, List.setIfInBounds_toArray, List.set_cons_succ, List.set_cons_zero]
        refine wpAnyF_takeP (i := 7) (oi := _) (v := ?vv22) (some 90) [] rfl rfl (by kernel_rfl) (by kernel_rfl) (by kernel_rfl) (by kernel_rfl) (by kernel_rfl) (fun _ _ _ h => h) (Or.inl ⟨by rfl, ?yy22⟩) hSd ?rr22
        case yy22 => (intro wq hSq; obtain hq := hSq; go_simp <;> with_reducible rfl)
        simp only [Act.put, List.setIfInBounds_toArray, List.set_cons_succ, List.set_cons_zero]
        refine wpAnyF_takeP (i := 8) (oi := _) (v := ?vv23) (some 91) [] rfl rfl (by kernel_rfl) (by kernel_rfl) (by kernel_rfl) (by kernel_rfl) (by kernel_rfl) (fun _ _ _ h => h) (Or.inl ⟨by rfl, ?yy23⟩) hSd ?rr23
        case yy23 => (intro wq hSq; obtain hq := hSq; go_simp <;> with_reducible rfl)
        simp only [Act.put, List.setIfInBounds_toArray, List.set_cons_succ, List.set_cons_zero]
        refine wpAnyF_last (o := _) (by kernel_rfl) rfl (fun K' hK => ?_)
        rw [if_pos (by rfl)]
        go_simp
        refine hK.out _ _ ?_
        clear hK
        refine wpAnyF_done (by kernel_rfl) ?_ _
        try simp only [Act.put]
        clear hSd d1 d2 w2 w3
        obtain ⟨a0, a1', a2'⟩ := HQC.out k hlt
        obtain ⟨b0, b1', b2'⟩ := HTC.out k hlt
        have hkl : (k : Int) < (zs.length : Int) := by omega
        have HSP := hide (show ∀ v, Below Z.heap.size Z v → v.cell? ⟨QB, 2, none⟩ = some (.slice (some ⟨qb, qf, none⟩) zs.length rc) ∧ v.cell? ⟨RB, 2, none⟩ = some (.slice (some ⟨tb, tf, none⟩) zs.length sc) ∧ v.cell? ⟨qb, qf + k * 3, none⟩ = some (.int .i64 (pxAt D k).1) ∧ v.cell? ⟨qb, qf + k * 3 + 1, none⟩ = some (.int .i64 (pxAt D k).2.1) ∧ v.cell? ⟨qb, qf + k * 3 + 2, none⟩ = some (.int .i64 (pxAt D k).2.2) ∧ v.cell? ⟨tb, tf + k * 3, none⟩ = some (.int .i64 (pxAt D2 k).1) ∧ v.cell? ⟨tb, tf + k * 3 + 1, none⟩ = some (.int .i64 (pxAt D2 k).2.1) ∧ v.cell? ⟨tb, tf + k * 3 + 2, none⟩ = some (.int .i64 (pxAt D2 k).2.2) from fun v h =>
          ⟨(HSZ.out _ h).2.1, (HSZ.out _ h).2.2, (h.cell (p := ⟨qb, qf + k * 3, none⟩) hqb).trans a0, (h.cell (p := ⟨qb, qf + k * 3 + 1, none⟩) hqb).trans a1', (h.cell (p := ⟨qb, qf + k * 3 + 2, none⟩) hqb).trans a2', (h.cell (p := ⟨tb, tf + k * 3, none⟩) htb).trans b0, (h.cell (p := ⟨tb, tf + k * 3 + 1, none⟩) htb).trans b1', (h.cell (p := ⟨tb, tf + k * 3 + 2, none⟩) htb).trans b2'⟩)
        clear a0 a1' a2' b0 b1' b2'
        have hWe : Below Z.heap.size Z (Z.drewN m).drew.drew := HZm.out.drew.drew
        have hSd := HSP.out _ hWe
        generalize pxAt D k = PA at *
        generalize pxAt D2 k = PB2 at *
        go_upto_region 16 with fail
        by_cases f1 : (4 : Int) < (QK : Int) - (QI : Int)
        · have e1 : decide ((4 : Int) < (QK : Int) - (QI : Int)) = true := decide_eq_true f1
          obtain rfl : PA = PB2 := HFK.out (by omega)
          have hmx : Try.prog.follows .mixedOrders = true := by kernel_rfl
          refine wp_region_last (S := fun v : World => v.cell? ⟨QB, 2, none⟩ = some (.slice (some ⟨qb, qf, none⟩) zs.length rc) ∧ v.cell? ⟨RB, 2, none⟩ = some (.slice (some ⟨tb, tf, none⟩) zs.length sc) ∧ v.cell? ⟨qb, qf + k * 3, none⟩ = some (.int .i64 PA.1) ∧ v.cell? ⟨qb, qf + k * 3 + 1, none⟩ = some (.int .i64 PA.2.1) ∧ v.cell? ⟨qb, qf + k * 3 + 2, none⟩ = some (.int .i64 PA.2.2) ∧ v.cell? ⟨tb, tf + k * 3, none⟩ = some (.int .i64 PA.1) ∧ v.cell? ⟨tb, tf + k * 3 + 1, none⟩ = some (.int .i64 PA.2.1) ∧ v.cell? ⟨tb, tf + k * 3 + 2, none⟩ = some (.int .i64 PA.2.2)) (f := 18) hmx ?_
          show wpAnyF _ _ _ _ _ _ 19 _ _ (Z.drewN m).drew.drew
          refine wpAnyF_takeP (i := 0) (oi := _) (v := ?vv24) (some 92) [6, 2, 1] rfl rfl (by kernel_rfl) (by kernel_rfl) (by kernel_rfl) (by kernel_rfl) (by kernel_rfl) (fun _ _ _ h => h) (Or.inl ⟨by rfl, ?yy24⟩) hSd ?rr24
          case yy24 => (intro wq hSq; obtain ⟨_, _, _, _, _, _, _, _⟩ := hSq; go_simp <;> with_reducible rfl)
          simp only [Act.put, List.setIfInBounds_toArray, List.set_cons_succ, List.set_cons_zero]
          refine wpAnyF_takeP (i := 1) (oi := _) (v := ?vv25) (some 93) [6, 2] rfl rfl (by kernel_rfl) (by kernel_rfl) (by kernel_rfl) (by kernel_rfl) (by kernel_rfl) (fun _ _ _ h => h) (Or.inl ⟨by rfl, ?yy25⟩) hSd ?rr25
          case yy25 => (intro wq hSq; obtain ⟨_, _, _, _, _, _, _, _⟩ := hSq; go_simp <;> with_reducible rfl)
          simp only [Act.put, List.setIfInBounds_toArray, List.set_cons_succ, List.set_cons_zero]
          refine wpAnyF_takeP (i := 2) (oi := _) (v := ?vv26) (some 94) [6] rfl rfl (by kernel_rfl) (by kernel_rfl) (by kernel_rfl) (by kernel_rfl) (by kernel_rfl) (fun _ _ _ h => h) (Or.inl ⟨by rfl, ?yy26⟩) hSd ?rr26
          case yy26 => (intro wq hSq; obtain ⟨_, _, _, _, _, _, _, _⟩ := hSq; go_simp <;> with_reducible rfl)
          simp only [Act.put, List.setIfInBounds_toArray, List.set_cons_succ, List.set_cons_zero]
          refine wpAnyF_takeP (i := 3) (oi := _) (v := undef) (some 95) [6, 5, 4] rfl rfl (by kernel_rfl) (by kernel_rfl) (by kernel_rfl) (by kernel_rfl) (by kernel_rfl) (fun _ _ _ h => h) (Or.inr ⟨by rfl, rfl⟩) hSd ?rr27
          simp only [Act.put, List.setIfInBounds_toArray, List.set_cons_succ, List.set_cons_zero]
          refine wpAnyF_takeP (i := 4) (oi := _) (v := undef) (some 96) [6, 5] rfl rfl (by kernel_rfl) (by kernel_rfl) (by kernel_rfl) (by kernel_rfl) (by kernel_rfl) (fun _ _ _ h => h) (Or.inr ⟨by rfl, rfl⟩) hSd ?rr28
          simp only [Act.put, List.setIfInBounds_toArray, List.set_cons_succ, List.set_cons_zero]
          refine wpAnyF_takeP (i := 5) (oi := _) (v := ?vv29) (some 97) [6] rfl rfl (by kernel_rfl) (by kernel_rfl) (by kernel_rfl) (by kernel_rfl) (by kernel_rfl) (fun _ _ _ h => h) (Or.inl ⟨by rfl, ?yy29⟩) hSd ?rr29
          case yy29 => (intro wq hSq; obtain ⟨_, _, _, _, _, _, _, _⟩ := hSq; go_simp <;> with_reducible rfl)
          simp only [Act.put, List.setIfInBounds_toArray, List.set_cons_succ, List.set_cons_zero]
          refine wpAnyF_takeP (i := 6) (oi := _) (v := ?vv30) (some 98) [] rfl rfl (by kernel_rfl) (by kernel_rfl) (by kernel_rfl) (by kernel_rfl) (by kernel_rfl) (fun _ _ _ h => h) (Or.inl ⟨by rfl, ?yy30⟩) hSd ?rr30
          case yy30 => (intro wq hSq; obtain ⟨_, _, _, _, _, _, _, _⟩ := hSq; go_simp <;> with_reducible rfl)
          simp only [Act.put, List.setIfInBounds_toArray, List.set_cons_succ, List.set_cons_zero]
          refine wpAnyF_takeP (i := 7) (oi := _) (v := ?vv31) (some 99) [17, 11, 10, 8] rfl rfl (by kernel_rfl) (by kernel_rfl) (by kernel_rfl) (by kernel_rfl) (by kernel_rfl) (fun _ _ _ h => h) (Or.inl ⟨by rfl, ?yy31⟩) hSd ?rr31
          case yy31 => (intro wq hSq; obtain ⟨_, _, _, _, _, _, _, _⟩ := hSq; go_simp <;> with_reducible rfl)
          simp only [Act.put, List.setIfInBounds_toArray, List.set_cons_succ, List.set_cons_zero]
          refine wpAnyF_takeP (i := 9) (oi := _) (v := ?vv32) (some 101) [17, 11, 10] rfl rfl (by kernel_rfl) (by kernel_rfl) (by kernel_rfl) (by kernel_rfl) (by kernel_rfl) (fun _ _ _ h => h) (Or.inl ⟨by rfl, ?yy32⟩) hSd ?rr32
          case yy32 => (intro wq hSq; obtain ⟨_, _, _, _, _, _, _, _⟩ := hSq; go_simp <;> with_reducible rfl)
          simp only [Act.put, List.setIfInBounds_toArray, List.set_cons_succ, List.set_cons_zero]
          refine wpAnyF_takeP (i := 12) (oi := _) (v := ?vv33) (some 104) [17, 16, 15, 13] rfl rfl (by kernel_rfl) (by kernel_rfl) (by kernel_rfl) (by kernel_rfl) (by kernel_rfl) (fun _ _ _ h => h) (Or.inl ⟨by rfl, ?yy33⟩) hSd ?rr33
          case yy33 => (intro wq hSq; obtain ⟨_, _, _, _, _, _, _, _⟩ := hSq; go_simp <;> with_reducible rfl)
          simp only [Act.put, List.setIfInBounds_toArray, List.set_cons_succ, List.set_cons_zero]
          refine wpAnyF_takeP (i := 14) (oi := _) (v := ?vv34) (some 106) [17, 16, 15] rfl rfl (by kernel_rfl) (by kernel_rfl) (by kernel_rfl) (by kernel_rfl) (by kernel_rfl) (fun _ _ _ h => h) (Or.inl ⟨by rfl, ?yy34⟩) hSd ?rr34
          case yy34 => (intro wq hSq; obtain ⟨_, _, _, _, _, _, _, _⟩ := hSq; go_simp <;> with_reducible rfl)
          simp only [Act.put, List.setIfInBounds_toArray, List.set_cons_succ, List.set_cons_zero]
          refine wpAnyF_takeP (i := 8) (oi := _) (v := ?vv35) (some 100) [17, 11, 10] rfl rfl (by kernel_rfl) (by kernel_rfl) (by kernel_rfl) (by kernel_rfl) (by kernel_rfl) (fun _ _ _ h => h) (Or.inl ⟨by rfl, ?yy35⟩) hSd ?rr35
          case yy35 => (intro wq hSq; obtain ⟨_, _, _, _, _, _, _, _⟩ := hSq; go_simp <;> with_reducible rfl)
          simp only [Act.put, List.setIfInBounds_toArray, List.set_cons_succ, List.set_cons_zero]
          refine wpAnyF_takeP (i := 13) (oi := _) (v := ?vv36) (some 105) [17, 16, 15] rfl rfl (by kernel_rfl) (by kernel_rfl) (by kernel_rfl) (by kernel_rfl) (by kernel_rfl) (fun _ _ _ h => h) (Or.inl ⟨by rfl, ?yy36⟩) hSd ?rr36
          case yy36 => (intro wq hSq; obtain ⟨_, _, _, _, _, _, _, _⟩ := hSq; go_simp <;> with_reducible rfl)
          simp only [Act.put, List.setIfInBounds_toArray, List.set_cons_succ, List.set_cons_zero]
          refine wpAnyF_takeP (i := 10) (oi := _) (v := ?vv37) (some 102) [17, 11] rfl rfl (by kernel_rfl) (by kernel_rfl) (by kernel_rfl) (by kernel_rfl) (by kernel_rfl) (fun _ _ _ h => h) (Or.inl ⟨by rfl, ?yy37⟩) hSd ?rr37
          case yy37 => (intro wq hSq; obtain ⟨_, _, _, _, _, _, _, _⟩ := hSq; go_simp <;> with_reducible rfl)
          simp only [Act.put, List.setIfInBounds_toArray, List.set_cons_succ, List.set_cons_zero]
          refine wpAnyF_takeP (i := 15) (oi := _) (v := ?vv38) (some 107) [17, 16] rfl rfl (by kernel_rfl) (by kernel_rfl) (by kernel_rfl) (by kernel_rfl) (by kernel_rfl) (fun _ _ _ h => h) (Or.inl ⟨by rfl, ?yy38⟩) hSd ?rr38
          case yy38 => (intro wq hSq; obtain ⟨_, _, _, _, _, _, _, _⟩ := hSq; go_simp <;> with_reducible rfl)
          simp only [Act.put, List.setIfInBounds_toArray, List.set_cons_succ, List.set_cons_zero]
          refine wpAnyF_takeP (i := 11) (oi := _) (v := ?vv39) (some 103) [17] rfl rfl (by kernel_rfl) (by kernel_rfl) (by kernel_rfl) (by kernel_rfl) (by kernel_rfl) (fun _ _ _ h => h) (Or.inl ⟨by rfl, ?yy39⟩) hSd ?rr39
          case yy39 => (intro wq hSq; obtain ⟨_, _, _, _, _, _, _, _⟩ := hSq; go_simp <;> with_reducible rfl)
          simp only [Act.put, List.setIfInBounds_toArray, List.set_cons_succ, List.set_cons_zero]
          refine wpAnyF_takeP (i := 16) (oi := _) (v := ?vv40) (some 108) [17] rfl rfl (by kernel_rfl) (by kernel_rfl) (by kernel_rfl) (by kernel_rfl) (by kernel_rfl) (fun _ _ _ h => h) (Or.inl ⟨by rfl, ?yy40⟩) hSd ?rr40
          case yy40 => (intro wq hSq; obtain ⟨_, _, _, _, _, _, _, _⟩ := hSq; go_simp <;> with_reducible rfl)
          simp only [Act.put, List.setIfInBounds_toArray, List.set_cons_succ, List.set_cons_zero]
          refine wpAnyF_takeP (i := 17) (oi := _) (v := ?vv41) (some 109) [] rfl rfl (by kernel_rfl) (by kernel_rfl) (by kernel_rfl) (by kernel_rfl) (by kernel_rfl) (fun _ _ _ h => h) (Or.inl ⟨by rfl, ?yy41⟩) hSd ?rr41
          case yy41 => (intro wq hSq; obtain ⟨_, _, _, _, _, _, _, _⟩ := hSq; go_simp <;> with_reducible rfl)
          simp only [Act.put, List.setIfInBounds_toArray, List.set_cons_succ, List.set_cons_zero]
          refine wpAnyF_last (o := _) (by kernel_rfl) rfl (fun K' hK => ?_)
          rw [if_pos (by rfl)]
          go_simp
          refine hK.out _ _ ?_
          clear hK
          refine wpAnyF_done (by kernel_rfl) ?_ _
          try simp only [Act.put]
          clear hSd
          go_wp2
          go_roundw
          case rel => exact ⟨k + 1, by omega, by go_num, m + 2, rfl⟩
          case measure => simp [intOf]; omega
        · have e1 : decide ((4 : Int) < (QK : Int) - (QI : Int)) = false := decide_eq_false f1
          by_cases f2 : (QK : Int) - (QI : Int) < -4
          · have e2 : decide ((QK : Int) - (QI : Int) < -4) = true := decide_eq_true f2
            obtain rfl : PA = PB2 := HFK.out (by omega)
            have hmx : Try.prog.follows .mixedOrders = true := by kernel_rfl
            refine wp_region_last (S := fun v : World => v.cell? ⟨QB, 2, none⟩ = some (.slice (some ⟨qb, qf, none⟩) zs.length rc) ∧ v.cell? ⟨RB, 2, none⟩ = some (.slice (some ⟨tb, tf, none⟩) zs.length sc) ∧ v.cell? ⟨qb, qf + k * 3, none⟩ = some (.int .i64 PA.1) ∧ v.cell? ⟨qb, qf + k * 3 + 1, none⟩ = some (.int .i64 PA.2.1) ∧ v.cell? ⟨qb, qf + k * 3 + 2, none⟩ = some (.int .i64 PA.2.2) ∧ v.cell? ⟨tb, tf + k * 3, none⟩ = some (.int .i64 PA.1) ∧ v.cell? ⟨tb, tf + k * 3 + 1, none⟩ = some (.int .i64 PA.2.1) ∧ v.cell? ⟨tb, tf + k * 3 + 2, none⟩ = some (.int .i64 PA.2.2)) (f := 18) hmx ?_
            show wpAnyF _ _ _ _ _ _ 19 _ _ (Z.drewN m).drew.drew
            refine wpAnyF_takeP (i := 0) (oi := _) (v := ?vv42) (some 92) [6, 2, 1] rfl rfl (by kernel_rfl) (by kernel_rfl) (by kernel_rfl) (by kernel_rfl) (by kernel_rfl) (fun _ _ _ h => h) (Or.inl ⟨by rfl, ?yy42⟩) hSd ?rr42
            case yy42 => (intro wq hSq; obtain ⟨_, _, _, _, _, _, _, _⟩ := hSq; go_simp <;> with_reducible rfl)
            simp only [Act.put, List.setIfInBounds_toArray, List.set_cons_succ, List.set_cons_zero]
            refine wpAnyF_takeP (i := 1) (oi := _) (v := ?vv43) (some 93) [6, 2] rfl rfl (by kernel_rfl) (by kernel_rfl) (by kernel_rfl) (by kernel_rfl) (by kernel_rfl) (fun _ _ _ h => h) (Or.inl ⟨by rfl, ?yy43⟩) hSd ?rr43
            case yy43 => (intro wq hSq; obtain ⟨_, _, _, _, _, _, _, _⟩ := hSq; go_simp <;> with_reducible rfl)
            simp only [Act.put, List.setIfInBounds_toArray, List.set_cons_succ, List.set_cons_zero]
            refine wpAnyF_takeP (i := 2) (oi := _) (v := ?vv44) (some 94) [6] rfl rfl (by kernel_rfl) (by kernel_rfl) (by kernel_rfl) (by kernel_rfl) (by kernel_rfl) (fun _ _ _ h => h) (Or.inl ⟨by rfl, ?yy44⟩) hSd ?rr44
            case yy44 => (intro wq hSq; obtain ⟨_, _, _, _, _, _, _, _⟩ := hSq; go_simp <;> with_reducible rfl)
            simp only [Act.put, List.setIfInBounds_toArray, List.set_cons_succ, List.set_cons_zero]
            refine wpAnyF_takeP (i := 3) (oi := _) (v := ?vv45) (some 95) [6, 5, 4] rfl rfl (by kernel_rfl) (by kernel_rfl) (by kernel_rfl) (by kernel_rfl) (by kernel_rfl) (fun _ _ _ h => h) (Or.inl ⟨by rfl, ?yy45⟩) hSd ?rr45
            case yy45 => (intro wq hSq; obtain ⟨_, _, _, _, _, _, _, _⟩ := hSq; go_simp <;> with_reducible rfl)
            simp only [Act.put, List.setIfInBounds_toArray, List.set_cons_succ, List.set_cons_zero]
            refine wpAnyF_takeP (i := 4) (oi := _) (v := ?vv46) (some 96) [6, 5] rfl rfl (by kernel_rfl) (by kernel_rfl) (by kernel_rfl) (by kernel_rfl) (by kernel_rfl) (fun _ _ _ h => h) (Or.inl ⟨by rfl, ?yy46⟩) hSd ?rr46
            case yy46 => (intro wq hSq; obtain ⟨_, _, _, _, _, _, _, _⟩ := hSq; go_simp <;> with_reducible rfl)
            simp only [Act.put, List.setIfInBounds_toArray, List.set_cons_succ, List.set_cons_zero]
            refine wpAnyF_takeP (i := 5) (oi := _) (v := ?vv47) (some 97) [6] rfl rfl (by kernel_rfl) (by kernel_rfl) (by kernel_rfl) (by kernel_rfl) (by kernel_rfl) (fun _ _ _ h => h) (Or.inl ⟨by rfl, ?yy47⟩) hSd ?rr47
            case yy47 => (intro wq hSq; obtain ⟨_, _, _, _, _, _, _, _⟩ := hSq; go_simp <;> with_reducible rfl)
            simp only [Act.put, List.setIfInBounds_toArray, List.set_cons_succ, List.set_cons_zero]
            refine wpAnyF_takeP (i := 6) (oi := _) (v := ?vv48) (some 98) [] rfl rfl (by kernel_rfl) (by kernel_rfl) (by kernel_rfl) (by kernel_rfl) (by kernel_rfl) (fun _ _ _ h => h) (Or.inl ⟨by rfl, ?yy48⟩) hSd ?rr48
            case yy48 => (intro wq hSq; obtain ⟨_, _, _, _, _, _, _, _⟩ := hSq; go_simp <;> with_reducible rfl)
            simp only [Act.put, List.setIfInBounds_toArray, List.set_cons_succ, List.set_cons_zero]
            refine wpAnyF_takeP (i := 7) (oi := _) (v := ?vv49) (some 99) [17, 11, 10, 8] rfl rfl (by kernel_rfl) (by kernel_rfl) (by kernel_rfl) (by kernel_rfl) (by kernel_rfl) (fun _ _ _ h => h) (Or.inl ⟨by rfl, ?yy49⟩) hSd ?rr49
            case yy49 => (intro wq hSq; obtain ⟨_, _, _, _, _, _, _, _⟩ := hSq; go_simp <;> with_reducible rfl)
            simp only [Act.put, List.setIfInBounds_toArray, List.set_cons_succ, List.set_cons_zero]
            refine wpAnyF_takeP (i := 9) (oi := _) (v := ?vv50) (some 101) [17, 11, 10] rfl rfl (by kernel_rfl) (by kernel_rfl) (by kernel_rfl) (by kernel_rfl) (by kernel_rfl) (fun _ _ _ h => h) (Or.inl ⟨by rfl, ?yy50⟩) hSd ?rr50
            case yy50 => (intro wq hSq; obtain ⟨_, _, _, _, _, _, _, _⟩ := hSq; go_simp <;> with_reducible rfl)
            simp only [Act.put, List.setIfInBounds_toArray, List.set_cons_succ, List.set_cons_zero]
            refine wpAnyF_takeP (i := 12) (oi := _) (v := ?vv51) (some 104) [17, 16, 15, 13] rfl rfl (by kernel_rfl) (by kernel_rfl) (by kernel_rfl) (by kernel_rfl) (by kernel_rfl) (fun _ _ _ h => h) (Or.inl ⟨by rfl, ?yy51⟩) hSd ?rr51
            case yy51 => (intro wq hSq; obtain ⟨_, _, _, _, _, _, _, _⟩ := hSq; go_simp <;> with_reducible rfl)
            simp only [Act.put, List.setIfInBounds_toArray, List.set_cons_succ, List.set_cons_zero]
            refine wpAnyF_takeP (i := 14) (oi := _) (v := ?vv52) (some 106) [17, 16, 15] rfl rfl (by kernel_rfl) (by kernel_rfl) (by kernel_rfl) (by kernel_rfl) (by kernel_rfl) (fun _ _ _ h => h) (Or.inl ⟨by rfl, ?yy52⟩) hSd ?rr52
            case yy52 => (intro wq hSq; obtain ⟨_, _, _, _, _, _, _, _⟩ := hSq; go_simp <;> with_reducible rfl)
            simp only [Act.put, List.setIfInBounds_toArray, List.set_cons_succ, List.set_cons_zero]
            refine wpAnyF_takeP (i := 8) (oi := _) (v := ?vv53) (some 100) [17, 11, 10] rfl rfl (by kernel_rfl) (by kernel_rfl) (by kernel_rfl) (by kernel_rfl) (by kernel_rfl) (fun _ _ _ h => h) (Or.inl ⟨by rfl, ?yy53⟩) hSd ?rr53
            case yy53 => (intro wq hSq; obtain ⟨_, _, _, _, _, _, _, _⟩ := hSq; go_simp <;> with_reducible rfl)
            simp only [Act.put, List.setIfInBounds_toArray, List.set_cons_succ, List.set_cons_zero]
            refine wpAnyF_takeP (i := 13) (oi := _) (v := ?vv54) (some 105) [17, 16, 15] rfl rfl (by kernel_rfl) (by kernel_rfl) (by kernel_rfl) (by kernel_rfl) (by kernel_rfl) (fun _ _ _ h => h) (Or.inl ⟨by rfl, ?yy54⟩) hSd ?rr54
            case yy54 => (intro wq hSq; obtain ⟨_, _, _, _, _, _, _, _⟩ := hSq; go_simp <;> with_reducible rfl)
            simp only [Act.put, List.setIfInBounds_toArray, List.set_cons_succ, List.set_cons_zero]
            refine wpAnyF_takeP (i := 10) (oi := _) (v := ?vv55) (some 102) [17, 11] rfl rfl (by kernel_rfl) (by kernel_rfl) (by kernel_rfl) (by kernel_rfl) (by kernel_rfl) (fun _ _ _ h => h) (Or.inl ⟨by rfl, ?yy55⟩) hSd ?rr55
            case yy55 => (intro wq hSq; obtain ⟨_, _, _, _, _, _, _, _⟩ := hSq; go_simp <;> with_reducible rfl)
            simp only [Act.put, List.setIfInBounds_toArray, List.set_cons_succ, List.set_cons_zero]
            refine wpAnyF_takeP (i := 15) (oi := _) (v := ?vv56) (some 107) [17, 16] rfl rfl (by kernel_rfl) (by kernel_rfl) (by kernel_rfl) (by kernel_rfl) (by kernel_rfl) (fun _ _ _ h => h) (Or.inl ⟨by rfl, ?yy56⟩) hSd ?rr56
            case yy56 => (intro wq hSq; obtain ⟨_, _, _, _, _, _, _, _⟩ := hSq; go_simp <;> with_reducible rfl)
            simp only [Act.put, List.setIfInBounds_toArray, List.set_cons_succ, List.set_cons_zero]
            refine wpAnyF_takeP (i := 11) (oi := _) (v := ?vv57) (some 103) [17] rfl rfl (by kernel_rfl) (by kernel_rfl) (by kernel_rfl) (by kernel_rfl) (by kernel_rfl) (fun _ _ _ h => h) (Or.inl ⟨by rfl, ?yy57⟩) hSd ?rr57
            case yy57 => (intro wq hSq; obtain ⟨_, _, _, _, _, _, _, _⟩ := hSq; go_simp <;> with_reducible rfl)
            simp only [Act.put, List.setIfInBounds_toArray, List.set_cons_succ, List.set_cons_zero]
            refine wpAnyF_takeP (i := 16) (oi := _) (v := ?vv58) (some 108) [17] rfl rfl (by kernel_rfl) (by kernel_rfl) (by kernel_rfl) (by kernel_rfl) (by kernel_rfl) (fun _ _ _ h => h) (Or.inl ⟨by rfl, ?yy58⟩) hSd ?rr58
            case yy58 => (intro wq hSq; obtain ⟨_, _, _, _, _, _, _, _⟩ := hSq; go_simp <;> with_reducible rfl)
            simp only [Act.put, List.setIfInBounds_toArray, List.set_cons_succ, List.set_cons_zero]
            refine wpAnyF_takeP (i := 17) (oi := _) (v := ?vv59) (some 109) [] rfl rfl (by kernel_rfl) (by kernel_rfl) (by kernel_rfl) (by kernel_rfl) (by kernel_rfl) (fun _ _ _ h => h) (Or.inl ⟨by rfl, ?yy59⟩) hSd ?rr59
            case yy59 => (intro wq hSq; obtain ⟨_, _, _, _, _, _, _, _⟩ := hSq; go_simp <;> with_reducible rfl)
            simp only [Act.put, List.setIfInBounds_toArray, List.set_cons_succ, List.set_cons_zero]
            refine wpAnyF_last (o := _) (by kernel_rfl) rfl (fun K' hK => ?_)
            rw [if_pos (by rfl)]
            go_simp
            refine hK.out _ _ ?_
            clear hK
            refine wpAnyF_done (by kernel_rfl) ?_ _
            try simp only [Act.put]
            clear hSd
            go_wp2
            go_roundw
            case rel => exact ⟨k + 1, by omega, by go_num, m + 2, rfl⟩
            case measure => simp [intOf]; omega
          · have e2 : decide ((QK : Int) - (QI : Int) < -4) = false := decide_eq_false f2
            have hmx : Try.prog.follows .mixedOrders = true := by kernel_rfl
            refine wp_region_last (S := fun v : World => v.cell? ⟨QB, 2, none⟩ = some (.slice (some ⟨qb, qf, none⟩) zs.length rc) ∧ v.cell? ⟨RB, 2, none⟩ = some (.slice (some ⟨tb, tf, none⟩) zs.length sc) ∧ v.cell? ⟨qb, qf + k * 3, none⟩ = some (.int .i64 PA.1) ∧ v.cell? ⟨qb, qf + k * 3 + 1, none⟩ = some (.int .i64 PA.2.1) ∧ v.cell? ⟨qb, qf + k * 3 + 2, none⟩ = some (.int .i64 PA.2.2) ∧ v.cell? ⟨tb, tf + k * 3, none⟩ = some (.int .i64 PB2.1) ∧ v.cell? ⟨tb, tf + k * 3 + 1, none⟩ = some (.int .i64 PB2.2.1) ∧ v.cell? ⟨tb, tf + k * 3 + 2, none⟩ = some (.int .i64 PB2.2.2)) (f := 18) hmx ?_
            show wpAnyF _ _ _ _ _ _ 19 _ _ (Z.drewN m).drew.drew
            refine wpAnyF_takeP (i := 0) (oi := _) (v := ?vv60) (some 92) [6, 2, 1] rfl rfl (by kernel_rfl) (by kernel_rfl) (by kernel_rfl) (by kernel_rfl) (by kernel_rfl) (fun _ _ _ h => h) (Or.inl ⟨by rfl, ?yy60⟩) hSd ?rr60
            case yy60 => (intro wq hSq; obtain ⟨_, _, _, _, _, _, _, _⟩ := hSq; go_simp <;> with_reducible rfl)
            simp only [Act.put, List.setIfInBounds_toArray, List.set_cons_succ, List.set_cons_zero]
            refine wpAnyF_takeP (i := 1) (oi := _) (v := ?vv61) (some 93) [6, 2] rfl rfl (by kernel_rfl) (by kernel_rfl) (by kernel_rfl) (by kernel_rfl) (by kernel_rfl) (fun _ _ _ h => h) (Or.inl ⟨by rfl, ?yy61⟩) hSd ?rr61
            case yy61 => (intro wq hSq; obtain ⟨_, _, _, _, _, _, _, _⟩ := hSq; go_simp <;> with_reducible rfl)
            simp only [Act.put, List.setIfInBounds_toArray, List.set_cons_succ, List.set_cons_zero]
            refine wpAnyF_takeP (i := 2) (oi := _) (v := ?vv62) (some 94) [6] rfl rfl (by kernel_rfl) (by kernel_rfl) (by kernel_rfl) (by kernel_rfl) (by kernel_rfl) (fun _ _ _ h => h) (Or.inl ⟨by rfl, ?yy62⟩) hSd ?rr62
            case yy62 => (intro wq hSq; obtain ⟨_, _, _, _, _, _, _, _⟩ := hSq; go_simp <;> with_reducible rfl)
            simp only [Act.put, List.setIfInBounds_toArray, List.set_cons_succ, List.set_cons_zero]
            refine wpAnyF_takeP (i := 3) (oi := _) (v := ?vv63) (some 95) [6, 5, 4] rfl rfl (by kernel_rfl) (by kernel_rfl) (by kernel_rfl) (by kernel_rfl) (by kernel_rfl) (fun _ _ _ h => h) (Or.inl ⟨by rfl, ?yy63⟩) hSd ?rr63
            case yy63 => (intro wq hSq; obtain ⟨_, _, _, _, _, _, _, _⟩ := hSq; go_simp <;> with_reducible rfl)
            simp only [Act.put, List.setIfInBounds_toArray, List.set_cons_succ, List.set_cons_zero]
            refine wpAnyF_takeP (i := 4) (oi := _) (v := ?vv64) (some 96) [6, 5] rfl rfl (by kernel_rfl) (by kernel_rfl) (by kernel_rfl) (by kernel_rfl) (by kernel_rfl) (fun _ _ _ h => h) (Or.inl ⟨by rfl, ?yy64⟩) hSd ?rr64
            case yy64 => (intro wq hSq; obtain ⟨_, _, _, _, _, _, _, _⟩ := hSq; go_simp <;> with_reducible rfl)
            simp only [Act.put, List.setIfInBounds_toArray, List.set_cons_succ, List.set_cons_zero]
            refine wpAnyF_takeP (i := 5) (oi := _) (v := ?vv65) (some 97) [6] rfl rfl (by kernel_rfl) (by kernel_rfl) (by kernel_rfl) (by kernel_rfl) (by kernel_rfl) (fun _ _ _ h => h) (Or.inl ⟨by rfl, ?yy65⟩) hSd ?rr65
            case yy65 => (intro wq hSq; obtain ⟨_, _, _, _, _, _, _, _⟩ := hSq; go_simp <;> with_reducible rfl)
            simp only [Act.put, List.setIfInBounds_toArray, List.set_cons_succ, List.set_cons_zero]
            refine wpAnyF_takeP (i := 6) (oi := _) (v := ?vv66) (some 98) [] rfl rfl (by kernel_rfl) (by kernel_rfl) (by kernel_rfl) (by kernel_rfl) (by kernel_rfl) (fun _ _ _ h => h) (Or.inl ⟨by rfl, ?yy66⟩) hSd ?rr66
            case yy66 => (intro wq hSq; obtain ⟨_, _, _, _, _, _, _, _⟩ := hSq; go_simp <;> with_reducible rfl)
            simp only [Act.put, List.setIfInBounds_toArray, List.set_cons_succ, List.set_cons_zero]
            refine wpAnyF_takeP (i := 7) (oi := _) (v := undef) (some 99) [17, 11, 10, 8] rfl rfl (by kernel_rfl) (by kernel_rfl) (by kernel_rfl) (by kernel_rfl) (by kernel_rfl) (fun _ _ _ h => h) (Or.inr ⟨by rfl, rfl⟩) hSd ?rr67
            simp only [Act.put, List.setIfInBounds_toArray, List.set_cons_succ, List.set_cons_zero]
            refine wpAnyF_takeP (i := 9) (oi := _) (v := undef) (some 101) [17, 11, 10] rfl rfl (by kernel_rfl) (by kernel_rfl) (by kernel_rfl) (by kernel_rfl) (by kernel_rfl) (fun _ _ _ h => h) (Or.inr ⟨by rfl, rfl⟩) hSd ?rr68
            simp only [Act.put, List.setIfInBounds_toArray, List.set_cons_succ, List.set_cons_zero]
            refine wpAnyF_takeP (i := 12) (oi := _) (v := undef) (some 104) [17, 16, 15, 13] rfl rfl (by kernel_rfl) (by kernel_rfl) (by kernel_rfl) (by kernel_rfl) (by kernel_rfl) (fun _ _ _ h => h) (Or.inr ⟨by rfl, rfl⟩) hSd ?rr69
            simp only [Act.put, List.setIfInBounds_toArray, List.set_cons_succ, List.set_cons_zero]
            refine wpAnyF_takeP (i := 14) (oi := _) (v := undef) (some 106) [17, 16, 15] rfl rfl (by kernel_rfl) (by kernel_rfl) (by kernel_rfl) (by kernel_rfl) (by kernel_rfl) (fun _ _ _ h => h) (Or.inr ⟨by rfl, rfl⟩) hSd ?rr70
            simp only [Act.put, List.setIfInBounds_toArray, List.set_cons_succ, List.set_cons_zero]
            refine wpAnyF_takeP (i := 8) (oi := _) (v := undef) (some 100) [17, 11, 10] rfl rfl (by kernel_rfl) (by kernel_rfl) (by kernel_rfl) (by kernel_rfl) (by kernel_rfl) (fun _ _ _ h => h) (Or.inr ⟨by rfl, rfl⟩) hSd ?rr71
            simp only [Act.put, List.setIfInBounds_toArray, List.set_cons_succ, List.set_cons_zero]
            refine wpAnyF_takeP (i := 13) (oi := _) (v := undef) (some 105) [17, 16, 15] rfl rfl (by kernel_rfl) (by kernel_rfl) (by kernel_rfl) (by kernel_rfl) (by kernel_rfl) (fun _ _ _ h => h) (Or.inr ⟨by rfl, rfl⟩) hSd ?rr72
            simp only [Act.put, List.setIfInBounds_toArray, List.set_cons_succ, List.set_cons_zero]
            refine wpAnyF_takeP (i := 10) (oi := _) (v := undef) (some 102) [17, 11] rfl rfl (by kernel_rfl) (by kernel_rfl) (by kernel_rfl) (by kernel_rfl) (by kernel_rfl) (fun _ _ _ h => h) (Or.inr ⟨by rfl, rfl⟩) hSd ?rr73
            simp only [Act.put, List.setIfInBounds_toArray, List.set_cons_succ, List.set_cons_zero]
            refine wpAnyF_takeP (i := 15) (oi := _) (v := undef) (some 107) [17, 16] rfl rfl (by kernel_rfl) (by kernel_rfl) (by kernel_rfl) (by kernel_rfl) (by kernel_rfl) (fun _ _ _ h => h) (Or.inr ⟨by rfl, rfl⟩) hSd ?rr74
            simp only [Act.put, List.setIfInBounds_toArray, List.set_cons_succ, List.set_cons_zero]
            refine wpAnyF_takeP (i := 11) (oi := _) (v := undef) (some 103) [17] rfl rfl (by kernel_rfl) (by kernel_rfl) (by kernel_rfl) (by kernel_rfl) (by kernel_rfl) (fun _ _ _ h => h) (Or.inr ⟨by rfl, rfl⟩) hSd ?rr75
            simp only [Act.put, List.setIfInBounds_toArray, List.set_cons_succ, List.set_cons_zero]
            refine wpAnyF_takeP (i := 16) (oi := _) (v := undef) (some 108) [17] rfl rfl (by kernel_rfl) (by kernel_rfl) (by kernel_rfl) (by kernel_rfl) (by kernel_rfl) (fun _ _ _ h => h) (Or.inr ⟨by rfl, rfl⟩) hSd ?rr76
            simp only [Act.put, List.setIfInBounds_toArray, List.set_cons_succ, List.set_cons_zero]
            refine wpAnyF_takeP (i := 17) (oi := _) (v := undef) (some 109) [] rfl rfl (by kernel_rfl) (by kernel_rfl) (by kernel_rfl) (by kernel_rfl) (by kernel_rfl) (fun _ _ _ h => h) (Or.inr ⟨by rfl, rfl⟩) hSd ?rr77
            simp only [Act.put, List.setIfInBounds_toArray, List.set_cons_succ, List.set_cons_zero]
            refine wpAnyF_last (o := _) (by kernel_rfl) rfl (fun K' hK => ?_)
            rw [if_pos (by rfl)]
            go_simp
            refine hK.out _ _ ?_
            clear hK
            refine wpAnyF_done (by kernel_rfl) ?_ _
            try simp only [Act.put]
            clear hSd
            go_wp2
            go_roundw
            case rel => exact ⟨k + 1, by omega, by go_num, m + 2, rfl⟩
            case measure => simp [intOf]; omega
      · go_wp2_with fail
        refine (lineBegun_any _).mono ?_
        rintro e V9 ⟨rfl, hb9⟩
        go_wp2
        go_ret
        exact ⟨rfl, (below_drewN HBZ.out m).trans (hb9.mono (below_drewN HBZ.out m).size)⟩
end Go.Proofs.Ytolcndchfnifhac

namespace Go.Proofs.Ytolcndchfnifhac
open Go.RowKit
theorem ints_of_row {W : World} {x : Addr} {len cap : Nat} {zs : List Int} (hl : len ≤ cap) (hm : cap ≤ maxLen) (hz : zs.length = cap)
    (hcell : ∀ i, i < zs.length → W.cell? (x.add i) = some (.int .i64 (zs.getD i 0))) : IsInts W (.slice (some x) len cap) (zs.take len) := by
  have hlen : (zs.take len).length = len := by rw [List.length_take]; omega
  unfold maxLen at hm
  refine ⟨some x, cap, by rw [hlen], by rw [hlen]; omega, ?_⟩
  by_cases h0 : len = 0
  · left; subst h0; rfl
  · right
    obtain ⟨b, off, rfl, hc⟩ := ints_at hcell (by omega)
    refine ⟨b, off, rfl, World.block_lt_of_cell? W _ (hc 0 (by omega)), fun j hj => ?_⟩
    rw [hlen] at hj
    rw [hc j (by omega)]
    simp [List.getD, List.getElem?_eq_getElem (show j < zs.length by omega)]
end Go.Proofs.Ytolcndchfnifhac

namespace Go.Proofs.Ytolcndchfnifhac
open Go.RowKit Go.ChangeShapes
theorem cells2 {W : World} {base : Nat} {a : Addr} {cs : List Value} (h : W.cells? base a 2 = some cs) : ∃ x y, cs = [x, y] ∧ W.cell? (a.add 0) = some x ∧ W.cell? (a.add 1) = some y := by
  obtain ⟨_, hl, hc⟩ := World.cells?_some h
  match cs, hl with
  | [x, y], _ => exact ⟨x, y, rfl, hc 0 (by omega), hc 1 (by omega)⟩
theorem list_of {α : Type} (P : Nat → α → Prop) (n : Nat) (h : ∀ i, i < n → ∃ p, P i p) (d : α) : ∃ ls : List α, ls.length = n ∧ ∀ i, i < n → P i (ls.getD i d) := by
  induction n with
  | zero => exact ⟨[], rfl, fun i hi => by omega⟩
  | succ n ih =>
    obtain ⟨ls, hl, hp⟩ := ih (fun i hi => h i (by omega))
    obtain ⟨p, hp'⟩ := h n (by omega)
    refine ⟨ls ++ [p], by simp [hl], fun i hi => ?_⟩
    rcases Nat.eq_or_lt_of_le (show i ≤ n by omega) with e | hlt
    · subst e
      rw [List.getD_eq_getElem?_getD, List.getElem?_append_right (by omega), hl]
      simpa using hp'
    · rw [List.getD_eq_getElem?_getD, List.getElem?_append_left (by omega), ← List.getD_eq_getElem?_getD]
      exact hp i hlt
theorem pts_openW {P : Program} {H : Type} {enc : TypeId × Value → H} {W : World} {base : Nat} {spare : Nat → Bool} {held : Bool} {fuel : Nat} {t e : TypeId} {f0 f1 : Field} {v : Value} {x : DataW H × List MemPlace}
    (ht : P.underlying t = some (.slice e)) (he : P.underlying e = some (.struct #[f0, f1])) (h0 : P.underlying f0.type = some (.int .i64)) (h1 : P.underlying f1.type = some (.int .i64)) (o0 : f0.offset = 0) (o1 : f1.offset = 1)
    (ce : P.cellsOf e = 2) (c0 : P.cellsOf f0.type = 1) (c1 : P.cellsOf f1.type = 1) (h : DataW.trod enc P W base spare held fuel t [v] = some x) : ∃ ls, IsPts W v ls ∧ ∀ j, j < ls.length → (Lit.int .i64 (ptAt ls j).1).wf = true ∧ (Lit.int .i64 (ptAt ls j).2).wf = true := by
  rcases DataW.trod_slice ht h with ⟨hcs, _⟩ | ⟨a, len, cap, elems, rest, n, _, hcs, _, hb, hl, hm, hlen, hel, _, _⟩
  · simp at hcs
    subst hcs
    exact ⟨[], IsPts.nil _, fun j hj => by simp at hj⟩
  · simp at hcs
    subst hcs
    have each : ∀ i, i < len → ∃ p : Pt, (W.cell? ((a.add (i * 2)).add 0) = some (.int .i64 p.1) ∧ W.cell? ((a.add (i * 2)).add 1) = some (.int .i64 p.2)) ∧ (Lit.int .i64 p.1).wf = true ∧ (Lit.int .i64 p.2).wf = true := by
      intro i hi
      have h2 := hel i hi
      rw [List.getElem?_eq_getElem (by omega), ce, Option.bind_eq_some_iff] at h2
      obtain ⟨cs, hc, hy⟩ := h2
      obtain ⟨p, q, rfl, hp, hq⟩ := cells2 hc
      obtain ⟨y0, y1, m, _, _, g0, g1⟩ := Go.ChangeShapes.trod_struct2 he hy
      rw [o0, c0] at g0
      rw [o1, c1] at g1
      obtain ⟨z0, e0, _, wf0⟩ := DataW.trod_int h0 g0
      obtain ⟨z1, e1, _, wf1⟩ := DataW.trod_int h1 g1
      simp at e0 e1
      subst e0 e1
      exact ⟨(z0, z1), ⟨hp, hq⟩, wf0, wf1⟩
    obtain ⟨ls, hll, hls⟩ := list_of _ len each (0, 0)
    unfold maxLen at hm
    refine ⟨ls, ⟨some a, cap, by rw [hll], by omega, ?_⟩, fun j hj => (hls j (by omega)).2⟩
    by_cases hz : len = 0
    · exact .inl (List.eq_nil_of_length_eq_zero (by omega))
    · right
      obtain ⟨b, off, spot⟩ := a
      have hspot : spot = none := by simpa [Addr.add] using World.cell?_spot (hls 0 (by omega)).1.1
      subst hspot
      have hk : ∀ j, j < ls.length → W.cell? ⟨b, off + j * 2, none⟩ = some (.int .i64 (ptAt ls j).1) ∧ W.cell? ⟨b, off + j * 2 + 1, none⟩ = some (.int .i64 (ptAt ls j).2) := by
        intro j hj
        have h2 := (hls j (by omega)).1
        rw [Go.WideShapes.add_plain, Go.WideShapes.add_plain, Go.WideShapes.add_plain] at h2
        exact h2
      exact ⟨b, off, rfl, World.block_lt_of_cell? W _ (hk 0 (by omega)).1, hk⟩
end Go.Proofs.Ytolcndchfnifhac

namespace Go.Proofs.Ytolcndchfnifhac
open Go.RowKit Go.ChangeShapes
set_option linter.unusedVariables false
theorem arr_cellsW {P : Program} {H : Type} {enc : TypeId × Value → H} {W : World} {base : Nat} {spare : Nat → Bool} {held : Bool} {fuel : Nat} {t e : TypeId} {n : Nat} {cs : List Value} {x : DataW H × List MemPlace}
    (ht : P.underlying t = some (.array n e)) (he : P.underlying e = some (.int .i64)) (ce : P.cellsOf e = 1) (hf : DataW.trod enc P W base spare held fuel t cs = some x) (i : Nat) (hi : i < n) : ∃ z : Int, cs[i]? = some (.int .i64 z) ∧ (Lit.int .i64 z).wf = true := by
  obtain ⟨xs, m, _, _, _, hl, hel⟩ := DataW.trod_array ht hf
  have hE := hel i hi
  rw [ce, Nat.mul_one, List.getElem?_eq_getElem (by omega)] at hE
  obtain ⟨z, e1, _, wf⟩ := DataW.trod_int he hE
  refine ⟨z, ?_, wf⟩
  have h0 : ((cs.drop i).take 1)[0]? = some (.int .i64 z) := by rw [e1]; rfl
  simpa using h0
theorem drop_take_get {cs : List Value} {a n i : Nat} {v : Value} (hi : i < n) (h : ((cs.drop a).take n)[i]? = some v) : cs[a + i]? = some v := by
  rw [List.getElem?_take_of_lt hi, List.getElem?_drop] at h
  exact h
theorem slot_get {cs : List Value} {a : Nat} {v : Value} (h : (cs.drop a).take 1 = [v]) : cs[a]? = some v := by
  have h0 : ((cs.drop a).take 1)[0]? = some v := by rw [h]; rfl
  simpa using h0
theorem ptsW_slot {P : Program} {H : Type} {enc : TypeId × Value → H} {W : World} {base : Nat} {spare : Nat → Bool} {held : Bool} {fuel : Nat} {t e : TypeId} {f0 f1 : Field} {cs : List Value} {x : DataW H × List MemPlace}
    (ht : P.underlying t = some (.slice e)) (he : P.underlying e = some (.struct #[f0, f1])) (h0 : P.underlying f0.type = some (.int .i64)) (h1 : P.underlying f1.type = some (.int .i64)) (o0 : f0.offset = 0) (o1 : f1.offset = 1)
    (ce : P.cellsOf e = 2) (c0 : P.cellsOf f0.type = 1) (c1 : P.cellsOf f1.type = 1) (h : DataW.trod enc P W base spare held fuel t cs = some x) : ∃ v ls, cs = [v] ∧ IsPts W v ls ∧ roomy v ∧ ∀ j, j < ls.length → ptWf (ptAt ls j) := by
  have hone : ∃ v, cs = [v] ∧ roomy v := by
    rcases DataW.trod_slice ht h with ⟨hcs, _⟩ | ⟨a, len, cap, elems, rest, n, _, hcs, _, _, hl, _, _, _, _, _⟩
    · exact ⟨_, hcs, Nat.le_refl _⟩
    · exact ⟨_, hcs, hl⟩
  obtain ⟨v, rfl, hr⟩ := hone
  obtain ⟨ls, h2, h3⟩ := pts_openW ht he h0 h1 o0 o1 ce c0 c1 h
  exact ⟨v, ls, rfl, h2, hr, h3⟩
set_option maxHeartbeats 1600000 in
theorem plan_open {P : Program} {H : Type} {enc : TypeId × Value → H} {W : World} {base : Nat} {spare : Nat → Bool} {held : Bool} {fuel : Nat} {t ti t4 t3 t9 ts tc es ec : TypeId} {g0 g1 g2 g3 g4 g5 g6 g7 s0 s1 q0 q1 : Field} {cs : List Value} {x : DataW H × List MemPlace}
    (ht : P.underlying t = some (.struct #[g0, g1, g2, g3, g4, g5, g6, g7])) (hi : P.underlying ti = some (.int .i64)) (ci : P.cellsOf ti = 1)
    (y0 : g0.type = ti) (y1 : g1.type = t4) (y2 : g2.type = ti) (y3 : g3.type = ts) (y4 : g4.type = t3) (y5 : g5.type = t9) (y6 : g6.type = tc) (y7 : g7.type = ti)
    (o0 : g0.offset = 0) (o1 : g1.offset = 1) (o2 : g2.offset = 5) (o3 : g3.offset = 6) (o4 : g4.offset = 7) (o5 : g5.offset = 10) (o6 : g6.offset = 19) (o7 : g7.offset = 20)
    (h4 : P.underlying t4 = some (.array 4 ti)) (c4 : P.cellsOf t4 = 4) (h3 : P.underlying t3 = some (.array 3 ti)) (c3 : P.cellsOf t3 = 3) (h9 : P.underlying t9 = some (.array 9 ti)) (c9 : P.cellsOf t9 = 9)
    (hs : P.underlying ts = some (.slice es)) (cs1 : P.cellsOf ts = 1) (hes : P.underlying es = some (.struct #[s0, s1])) (ces : P.cellsOf es = 2) (sy0 : s0.type = ti) (sy1 : s1.type = ti) (so0 : s0.offset = 0) (so1 : s1.offset = 1)
    (hc : P.underlying tc = some (.slice ec)) (cc1 : P.cellsOf tc = 1) (hec : P.underlying ec = some (.struct #[q0, q1])) (cec : P.cellsOf ec = 2) (qy0 : q0.type = ti) (qy1 : q1.type = ti) (qo0 : q0.offset = 0) (qo1 : q1.offset = 1)
    (ct : P.cellsOf t = 21) (h : DataW.trod enc P W base spare held fuel t cs = some x) :
    ∃ n sv cv, cs = (planA n sv cv).toList ∧ IsPlan W n sv cv ∧ (roomy sv ∧ roomy cv) ∧ (∀ j, j < n.spots.length → ptWf (ptAt n.spots j)) ∧ (∀ j, j < n.curve.length → ptWf (ptAt n.curve j)) := by
  obtain ⟨xs, m, _, _, hl, hxl, hx⟩ := DataW.trod_struct ht h
  rw [ct] at hl
  have e0 := hx 0 g0 rfl
  have e1 := hx 1 g1 rfl
  have e2 := hx 2 g2 rfl
  have e3 := hx 3 g3 rfl
  have e4 := hx 4 g4 rfl
  have e5 := hx 5 g5 rfl
  have e6 := hx 6 g6 rfl
  have e7 := hx 7 g7 rfl
  have hxl' : xs.length = 8 := by rw [hxl]; rfl
  rw [o0, y0, ci, List.getElem?_eq_getElem (by omega)] at e0
  rw [o1, y1, c4, List.getElem?_eq_getElem (by omega)] at e1
  rw [o2, y2, ci, List.getElem?_eq_getElem (by omega)] at e2
  rw [o3, y3, cs1, List.getElem?_eq_getElem (by omega)] at e3
  rw [o4, y4, c3, List.getElem?_eq_getElem (by omega)] at e4
  rw [o5, y5, c9, List.getElem?_eq_getElem (by omega)] at e5
  rw [o6, y6, cc1, List.getElem?_eq_getElem (by omega)] at e6
  rw [o7, y7, ci, List.getElem?_eq_getElem (by omega)] at e7
  obtain ⟨ph, p0, _, _⟩ := DataW.trod_int hi e0
  obtain ⟨wh, p2, _, _⟩ := DataW.trod_int hi e2
  obtain ⟨am, p7, _, _⟩ := DataW.trod_int hi e7
  obtain ⟨sv, ls, p3, i3, r3, w3⟩ := ptsW_slot hs hes (by rw [sy0]; exact hi) (by rw [sy1]; exact hi) so0 so1 ces (by rw [sy0]; exact ci) (by rw [sy1]; exact ci) e3
  obtain ⟨cv, lc, p6, i6, r6, w6⟩ := ptsW_slot hc hec (by rw [qy0]; exact hi) (by rw [qy1]; exact hi) qo0 qo1 cec (by rw [qy0]; exact ci) (by rw [qy1]; exact ci) e6
  obtain ⟨lb, lbl, hb⟩ := list_of _ 4 (arr_cellsW h4 hi ci e1) 0
  obtain ⟨lg, lgl, hg⟩ := list_of _ 3 (arr_cellsW h3 hi ci e4) 0
  obtain ⟨lm, lml, hm⟩ := list_of _ 9 (arr_cellsW h9 hi ci e5) 0
  refine ⟨⟨ph, fun k => lb.getD k 0, wh, ls, fun k => lg.getD k 0, fun k => lm.getD k 0, lc, am⟩, sv, cv, ?_, ⟨i3, i6⟩, ⟨r3, r6⟩, w3, w6⟩
  have q0 := slot_get p0
  have q5 := slot_get p2
  have q6 := slot_get p3
  have q19 := slot_get p6
  have q20 := slot_get p7
  have b := fun i hi => drop_take_get hi (hb i hi).1
  have g := fun i hi => drop_take_get hi (hg i hi).1
  have mm := fun i hi => drop_take_get hi (hm i hi).1
  refine List.ext_getElem? fun i => ?_
  by_cases hlt : i < 21
  · have h21 : i = 0 ∨ i = 1 ∨ i = 2 ∨ i = 3 ∨ i = 4 ∨ i = 5 ∨ i = 6 ∨ i = 7 ∨ i = 8 ∨ i = 9 ∨ i = 10 ∨ i = 11 ∨ i = 12 ∨ i = 13 ∨ i = 14 ∨ i = 15 ∨ i = 16 ∨ i = 17 ∨ i = 18 ∨ i = 19 ∨ i = 20 := by omega
    rcases h21 with rfl | rfl | rfl | rfl | rfl | rfl | rfl | rfl | rfl | rfl | rfl | rfl | rfl | rfl | rfl | rfl | rfl | rfl | rfl | rfl | rfl
    · exact q0
    · exact b 0 (by omega)
    · exact b 1 (by omega)
    · exact b 2 (by omega)
    · exact b 3 (by omega)
    · exact q5
    · exact q6
    · exact g 0 (by omega)
    · exact g 1 (by omega)
    · exact g 2 (by omega)
    · exact mm 0 (by omega)
    · exact mm 1 (by omega)
    · exact mm 2 (by omega)
    · exact mm 3 (by omega)
    · exact mm 4 (by omega)
    · exact mm 5 (by omega)
    · exact mm 6 (by omega)
    · exact mm 7 (by omega)
    · exact mm 8 (by omega)
    · exact q19
    · exact q20
  · rw [List.getElem?_eq_none (by omega), List.getElem?_eq_none (by simp; omega)]
theorem agg_cells {P : Program} {H : Type} {enc : TypeId × Value → H} {W : World} {base b0 : Nat} {spare : Nat → Bool} {held : Bool} {r : Reach} {t : TypeId} {fs : Array Field} {v : Value} {d : DataW H} {p : List MemPlace}
    (ht : P.underlying t = some (.struct fs)) (hv : Value.okWide P W r b0 t v) (h : DataW.Trod enc P W base spare held t v d p) : ∃ cs fuel, v = .agg cs ∧ DataW.trod enc P W base spare held fuel t cs.toList = some (d, p) := by
  obtain ⟨cs, rfl, _, _⟩ : ∃ cs, v = .agg cs ∧ cs.size = P.cellsOf t ∧ Row.okWide P W r b0 t cs := by
    simpa [Value.okWide, ht] using hv
  obtain ⟨fuel, hf⟩ := h
  exact ⟨cs, fuel, rfl, hf⟩
end Go.Proofs.Ytolcndchfnifhac
