/- bits.Bits and the reference's Row. -/
import Derived.Test.YtolcndchfnifhaaNumber
import Derived.Test.YtolcndchfnifhaaRowMath
import Derived.Test.YtolcndchfnifhaaShelf
namespace Go.Proofs.Ytolcndchfnifhaa
open Go.RowKit

theorem grow_any (B b : Nat) (n : Int) (N : Nat) (hN : n = N) (w : World) (hB : B ≤ b) (hbk : w.heap[b]? = some (.cells #[.pointer none, .slice none 0 0] 84 (0, 0))) (hBw : B ≤ w.heap.size) (hn : N ≤ 281474976710656) :
    Calls Try.prog 62 #[.pointer (some ⟨b, 0, none⟩), .int .i64 n] w fun e w' => e = .returned (.tuple #[]) ∧ Lib.IsBuilder 84 5 B b (byt []) w' ∧ Below B w w' := by
  subst hN
  refine (Try.Builder_Grow_fresh B b N w hB hbk hBw hn).mono ?_
  rintro e w' ⟨rfl, h, hb⟩
  exact ⟨rfl, .inr h, hb⟩

theorem writeByte_any (B b : Nat) (l : List UInt8) (c : Int) (C : Nat) (hC : c = C) (hc : C < 256) (w : World) (h : Lib.IsBuilder 84 5 B b (byt l) w) (hlen : l.length + 1 ≤ 140737488355328) (hBw : B ≤ w.heap.size) :
    Calls Try.prog 63 #[.pointer (some ⟨b, 0, none⟩), .int .u8 c] w fun e w' => e = .returned .nilIface ∧ Lib.IsBuilder 84 5 B b (byt (l ++ [UInt8.ofNat C])) w' ∧ Below B w w' := by
  subst hC
  refine (Try.Builder_WriteByte B b (byt l) C w h (by rw [byt_length]; exact hlen) hBw).mono ?_
  rintro e w' ⟨rfl, h, hb⟩
  refine ⟨rfl, .inr ?_, hb⟩
  rw [byt_append, byt_one C hc]; exact h

theorem writeString_any (B b : Nat) (l : List UInt8) (s : ByteArray) (w : World) (h : Lib.IsBuilder 84 5 B b (byt l) w) (hlen : l.length + s.size ≤ 140737488355328) (hBw : B ≤ w.heap.size) :
    Calls Try.prog 66 #[.pointer (some ⟨b, 0, none⟩), .string s] w fun e w' => e = .returned (.tuple #[.int .i64 s.size, .nilIface]) ∧ Lib.IsBuilder 84 5 B b (byt (l ++ s.data.toList)) w' ∧ Below B w w' := by
  refine (Try.Builder_WriteString B b (byt l) s w h (by rw [byt_length]; exact hlen) hBw).mono ?_
  rintro e w' ⟨rfl, h, hb⟩
  refine ⟨rfl, .inr ?_, hb⟩
  rw [byt_append]; exact h

theorem string_any (B b : Nat) (l : List UInt8) (w : World) (h : Lib.IsBuilder 84 5 B b (byt l) w) (hBw : B ≤ w.heap.size) :
    Calls Try.prog 64 #[.pointer (some ⟨b, 0, none⟩)] w fun e w' => e = .returned (.string (str l)) ∧ Below B w w' :=
  Try.Builder_String_any B b l w h hBw

set_option maxRecDepth 100000 in
set_option maxHeartbeats 400000 in
theorem bits_any (s : ByteArray) (hs : s.size ≤ 17592186044416) (w : World) :
    Calls Try.prog 24 #[.string s] w fun e w' => e = .returned (.string (str (rowOf s.data.toList))) ∧ Below w.heap.size w w' := by
  go_enter Try.func24, Try.ntmps24
  go_wp2_with (go_at_call 62; refine (grow_any w.heap.size w.heap.size _ (8 * s.size) ?_ _ (Nat.le_refl _) ?_ ?_ (by omega)).mono ?_; omega; exact heap_alloc_new w _; simp; rintro e w1 ⟨rfl, hbd, hbel⟩)
  go_loopw [12] (fun i wr => ∃ k : Nat, k ≤ s.size ∧ i = .int .i64 k ∧ Lib.IsBuilder 84 5 w.heap.size w.heap.size (byt (rowOf (s.data.toList.take k))) wr ∧ Below w.heap.size w wr)
    (fun i _ => s.size - (intOf i).toNat)
  case atStart => exact ⟨0, Nat.zero_le _, rfl, hbd, ((Below.refl _ _).alloc (Nat.le_refl _) _).trans hbel⟩
  case round =>
    obtain ⟨k, hk, rfl, hbd, hb⟩ := hrel
    by_cases hlt : k < s.size
    · have hd : decide ((k : Int) < (s.size : Int)) = true := by simp; omega
      have hrl := rowOf_length (s.data.toList.take k)
      have hrl2 : (rowOf (s.data.toList.take k)).length ≤ 8 * k := by rw [hrl]; simp; omega
      clear hrl
      have HR := hide (show rowOf (s.data.toList.take (k + 1)) = rowOf (s.data.toList.take k) ++ numBits s[k].toNat 8 by rw [take_snoc s k hlt, rowOf_snoc])
      have hc : s[k].toNat < 256 := s[k].toNat_lt
      generalize rowOf (s.data.toList.take k) = R at *
      go_wp2
      go_loopw [5] (fun i wq => ∃ t : Int, -1 ≤ t ∧ t ≤ 7 ∧ i = .int .i64 t ∧ Lib.IsBuilder 84 5 w.heap.size w.heap.size (byt (R ++ (numBits s[k].toNat 8).take (7 - t).toNat)) wq ∧ Below w.heap.size w wq)
        (fun i _ => (intOf i + 1).toNat)
      case atStart => exact ⟨7, by omega, by omega, rfl, by simpa using hbd, hb⟩
      case round =>
        obtain ⟨t, ht0, ht1, rfl, hbd2, hb2⟩ := hrel
        clear hbd hb
        by_cases h0 : 0 ≤ t
        · obtain ⟨u, rfl⟩ := Int.eq_ofNat_of_zero_le h0
          have hu : u ≤ 7 := by omega
          have hlen : (R ++ (numBits s[k].toNat 8).take (7 - (u : Int)).toNat).length + 1 ≤ 140737488355328 := by
            rw [List.length_append, List.length_take, numBits_length]; omega
          have hsz := hb2.size
          have HT := hide (take_bits s[k].toNat u (by omega))
          have HC := hide (bit8_cell s[k].toNat u hc)
          go_wp2_with (go_at_call 63; refine (writeByte_any w.heap.size w.heap.size _ _ _ HC.out (by omega) _ hbd2 hlen hsz).mono ?_; rintro e w3 ⟨rfl, hbd3, hb3⟩)
          go_roundw
          case rel => exact ⟨(u : Int) - 1, by omega, by omega, rfl, by
            rw [show (7 - ((u : Int) - 1)).toNat = 8 - u by omega, HT.out, ← List.append_assoc]
            rw [show (7 - (u : Int)).toNat = 7 - u by omega] at hbd3
            exact hbd3, hb2.trans hb3⟩
          case measure => simp [intOf]
        · obtain rfl : t = -1 := by omega
          rw [show (7 - (-1 : Int)).toNat = 8 by decide, List.take_of_length_le (by rw [numBits_length]; exact Nat.le_refl _), ← HR.out] at hbd2
          go_wp2
          go_roundw
          case rel => exact ⟨k + 1, by omega, by go_num, hbd2, hb2⟩
          case measure => simp [intOf]; omega
    · obtain rfl : k = s.size := by omega
      rw [take_all s s.size (Nat.le_refl _)] at hbd
      have hsz := hb.size
      go_wp2_with (go_at_call 64; refine (string_any w.heap.size w.heap.size _ _ hbd hsz).mono ?_; rintro e w3 ⟨rfl, hb3⟩)
      go_ret
      exact ⟨rfl, hb.trans hb3⟩

set_option maxRecDepth 100000 in
set_option maxHeartbeats 400000 in
theorem row_any (s : ByteArray) (hs : s.size ≤ 17592186044416) (w : World) :
    Calls Try.prog 25 #[.string s] w fun e w' => e = .returned (.string (str (rowOf s.data.toList))) ∧ Below w.heap.size w w' := by
  obtain ⟨i0, hi, hz0, hz1, hz2⟩ := info_parts Try.infoU8
  obtain ⟨n, hn⟩ : ∃ n, n = 8 * s.size := ⟨_, rfl⟩
  have HN := hide hn; clear hn
  go_enter Try.func25, Try.ntmps25
  go_wp2_with (at_make; refine wpList_make_own _ rfl _ _ 79 rfl w.heap.size 5 i0 (.int .u8 0) 1 Try.underlying79 hi hz0 hz1 .i64 .i64 _ n rfl rfl ?_ ?_ ?_ (Nat.le_refl _) ?_; (have := HN.out; omega); (have := HN.out; rw [hz2]; omega); (have := HN.out; unfold maxLen; omega); intro w1 hown hgr)
  go_loopw [3, 4] (fun v i wr => ∃ k : Nat, k ≤ s.size ∧ i = .int .i64 k ∧ v = .slice (some ⟨w.heap.size, 0, none⟩) (rowOf (s.data.toList.take k)).length n ∧
      wr.ownsRow w.heap.size 5 1 (.slice (some ⟨w.heap.size, 0, none⟩) (rowOf (s.data.toList.take k)).length n) (rowOf (s.data.toList.take k)).length (byt (rowOf (s.data.toList.take k))) ∧ Below w.heap.size w wr)
    (fun _ i _ => s.size - (intOf i).toNat)
  case atStart => exact ⟨0, Nat.zero_le _, rfl, rfl, hown, (Below.refl _ _).grown hgr (Nat.le_refl _) (by simp)⟩
  case round =>
    obtain ⟨k, hk, rfl, rfl, ho, hb⟩ := hrel
    clear hown hgr
    by_cases hlt : k < s.size
    · have hd : decide ((k : Int) < (s.size : Int)) = true := by simp; omega
      have hrl : (rowOf (s.data.toList.take k)).length = 8 * k := by rw [rowOf_length]; simp; omega
      have HL := hide hrl; clear hrl
      have HR := hide (show rowOf (s.data.toList.take (k + 1)) = rowOf (s.data.toList.take k) ++ numBits s[k].toNat 8 by rw [take_snoc s k hlt, rowOf_snoc])
      have hc : s[k].toNat < 256 := s[k].toNat_lt
      generalize rowOf (s.data.toList.take k) = R at *
      go_wp2
      go_loopw [3, 5] (fun v i wq => ∃ t : Int, -1 ≤ t ∧ t ≤ 7 ∧ i = .int .i64 t ∧ v = .slice (some ⟨w.heap.size, 0, none⟩) (R ++ (numBits s[k].toNat 8).take (7 - t).toNat).length n ∧
          wq.ownsRow w.heap.size 5 1 (.slice (some ⟨w.heap.size, 0, none⟩) (R ++ (numBits s[k].toNat 8).take (7 - t).toNat).length n) (R ++ (numBits s[k].toNat 8).take (7 - t).toNat).length (byt (R ++ (numBits s[k].toNat 8).take (7 - t).toNat)) ∧ Below w.heap.size w wq)
        (fun _ i _ => (intOf i + 1).toNat)
      case atStart => exact ⟨7, by omega, by omega, rfl, by simp, by simpa using ho, hb⟩
      case round =>
        obtain ⟨t, ht0, ht1, rfl, rfl, ho2, hb2⟩ := hrel
        clear ho hb
        by_cases h0 : 0 ≤ t
        · obtain ⟨u, rfl⟩ := Int.eq_ofNat_of_zero_le h0
          have hu : u ≤ 7 := by omega
          have hlen : (R ++ (numBits s[k].toNat 8).take (7 - (u : Int)).toNat).length + 1 ≤ n := by
            rw [List.length_append, List.length_take, numBits_length, HL.out, HN.out]; omega
          have hsz := hb2.size
          have HT := hide (take_bits s[k].toNat u (by omega))
          have HC := hide (bit8_cell s[k].toNat u hc)
          have HB := hide (byt_bit (s[k].toNat / 2 ^ u))
          have HE := hide (show (R ++ (numBits s[k].toNat 8).take (7 - (u : Int)).toNat) = (R ++ (numBits s[k].toNat 8).take (7 - u)) by rw [show (7 - (u : Int)).toNat = 7 - u by omega])
          generalize R ++ (numBits s[k].toNat 8).take (7 - (u : Int)).toNat = M at *
          go_wp2_with (at_builtin; refine wpList_append_fits _ rfl _ _ 79 rfl w.heap.size 5 i0 1 Try.underlying79 hi hz1 w.heap.size M.length n _ rfl (ho2.alloc _) ⟨_, 0, none⟩ 1 1 [.int .u8 ((48 + bits BinOp.and IntKind.u8 ((s[k].toNat : Int) / 2 ^ u) 1) % 256)] rfl rfl ?_ ?_ (by omega) ?_; (intro a u hu; obtain ⟨rfl, rfl⟩ := one_get hu; simp [Addr.add]); (intro u hu; simp at hu; subst hu; rfl); intro w2 ho3 hgr2)
          rw [HC.out, ← HB.out, ← byt_append] at ho3
          have HX : M ++ [UInt8.ofNat (48 + s[k].toNat / 2 ^ u % 2)] = R ++ (numBits s[k].toNat 8).take (8 - u) := by
            rw [HE.out, HT.out, List.append_assoc]
          rw [HX] at ho3
          have HX2 : M.length + 1 = (R ++ (numBits s[k].toNat 8).take (8 - u)).length := by rw [← HX]; simp
          rw [HX2] at ho3
          go_roundw
          case rel => exact ⟨(u : Int) - 1, by omega, by omega, rfl, by
            rw [show (7 - ((u : Int) - 1)).toNat = 8 - u by omega, HX2], by
            rw [show (7 - ((u : Int) - 1)).toNat = 8 - u by omega]; exact ho3, (hb2.alloc hb2.size _).grown hgr2 (by simp; omega) (by simp)⟩
          case measure => simp [intOf]
        · obtain rfl : t = -1 := by omega
          rw [show (7 - (-1 : Int)).toNat = 8 by decide, List.take_of_length_le (by rw [numBits_length]; exact Nat.le_refl _), ← HR.out] at ho2
          go_wp2
          go_roundw
          case rel => exact ⟨k + 1, by omega, by go_num, by
            rw [show (7 - (-1 : Int)).toNat = 8 by decide, List.take_of_length_le (by rw [numBits_length]; exact Nat.le_refl _), ← HR.out], ho2, hb2⟩
          case measure => simp [intOf]; omega
    · obtain rfl : k = s.size := by omega
      rw [take_all s s.size (Nat.le_refl _)] at ho
      have hcv := run_string_own (dst := 9) Try.underlying79 Try.underlying5 Try.underlying9 ho
      rw [take_all s s.size (Nat.le_refl _)]
      go_wp2
      go_ret
      exact ⟨rfl, hb⟩

end Go.Proofs.Ytolcndchfnifhaa
