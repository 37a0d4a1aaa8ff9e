/-
  The law TrayTurns, walked: it returns true for every bound and every number of rounds.
  Conditions: most is a byte, n a number of two bytes.
-/
import Derived.Test.YtgombejncjcjhabQueue
namespace Go.Proofs.Ytgombejncjcjhab
open Go.RowKit
set_option linter.unusedVariables false

/-- o, o + 1, .. : k of them -/
def seg (o k : Nat) : List Int := (List.range k).map (fun j => ((o + j : Nat) : Int))

theorem seg_len (o k : Nat) : (seg o k).length = k := by simp [seg]
theorem seg_snoc (o k : Nat) : seg o k ++ [((o + k : Nat) : Int)] = seg o (k + 1) := by simp [seg, List.range_succ]
theorem seg_cons (o k : Nat) : seg o (k + 1) = (o : Int) :: seg (o + 1) k := by
  simp only [seg, List.range_succ_eq_map, List.map_cons, List.map_map, Nat.add_zero]
  congr 1
  apply List.map_congr_left
  intro a _
  simp only [Function.comp]
  congr 1
  omega

set_option maxHeartbeats 2000000 in
theorem turns_law (b n : Int) (hb0 : 0 ≤ b) (hb1 : b ≤ 255) (hn0 : 0 ≤ n) (hn1 : n ≤ 65535) (w : World) :
    Calls Try.prog 5 #[.int .u8 b, .int .u16 n] w fun e w' => e = .returned (.bool true) ∧ Below w.heap.size w w' := by
  obtain ⟨m, hm⟩ : ∃ m : Nat, 1 + b % 12 = (m : Int) := ⟨(1 + b % 12).toNat, by omega⟩
  have hm1 : 1 ≤ m := by omega
  have hm2 : m ≤ 12 := by omega
  obtain ⟨N, hN⟩ : ∃ N : Nat, n % 2000 = (N : Int) := ⟨(n % 2000).toNat, by omega⟩
  have hN2 : N ≤ 1999 := by omega
  go_enter Try.func5, Try.ntmps5
  go_wp2_with fail
  refine (awake2 _).mono ?_
  rintro e wa ⟨rfl, hB⟩
  have HB := Lib.hid hB
  clear hB
  go_wp2_with fail
  refine (ring_new m _ (by omega)).mono ?_
  rintro e w1 ⟨rfl, h1, b1⟩
  have Q1 : Hid (Queue wa.heap.size w1 wa.heap.size m (seg 0 0)) := Lib.hid ⟨none, [], 0, h1, fun i hi => by simp [seg] at hi, (by rintro k (rfl | ⟨a, e, _⟩); exact Nat.le_refl _; cases e), fun _ => rfl⟩
  have B1 := Lib.hid b1
  clear h1 b1
  go_wp2
  go_loopw [7, 8] (fun so si wr => ∃ o i : Nat, i ≤ N ∧ o ≤ i ∧ i - o ≤ m ∧ so = .int .i64 o ∧ si = .int .i64 i ∧ Queue wa.heap.size wr wa.heap.size m (seg o (i - o)) ∧ Below wa.heap.size wa wr) (fun _ si _ => N - (intOf si).toNat)
  case atStart => exact ⟨0, 0, Nat.zero_le _, Nat.le_refl _, Nat.zero_le _, rfl, rfl, Q1.out, B1.out⟩
  case round =>
    obtain ⟨o, i, hi, hoi, him, rfl, rfl, hq, hbl⟩ := hrel
    have Q := Lib.hid hq
    have Bl := Lib.hid hbl
    clear hq hbl
    by_cases hlt : i < N
    · by_cases hfull : i - o < m
      · go_wp2_with fail
        refine (queue_push wa.heap.size wa.heap.size m _ (i : Int) _ Q.out (by rw [seg_len]; exact hfull) (by omega) Bl.out.size).mono ?_
        rintro e w2 ⟨rfl, q2, b2⟩
        have Q2 : Hid (Queue wa.heap.size w2 wa.heap.size m (seg o (i + 1 - o))) := Lib.hid (by
          rw [show i + 1 - o = (i - o) + 1 by omega, ← seg_snoc, show o + (i - o) = i by omega]; exact q2)
        have B2 := Lib.hid (Bl.out.trans b2)
        have L2 := Lib.hid (queue_len wa.heap.size wa.heap.size m _ w2 Q2.out)
        clear q2 b2
        go_wp2_with fail
        refine L2.out.mono ?_
        rintro e w' ⟨rfl, rfl⟩
        rw [seg_len]
        obtain ⟨k, hk⟩ : ∃ k, k = i + 1 - o := ⟨_, rfl⟩
        have hkm : (k : Int) ≤ (m : Int) := by omega
        have hke : ((k : Int) == (i : Int) + 1 - (o : Int)) = true := by rw [beq_iff_eq]; omega
        have hkn : ((k : Int) != (i : Int) + 1 - (o : Int)) = false := by rw [bne_eq_false_iff_eq]; omega
        have L2' : Hid (Calls Try.prog 14 #[.pointer (some ⟨wa.heap.size, 0, none⟩)] w2 fun e w' => e = .returned (.int .i64 k) ∧ w2 = w') := Lib.hid (by have := L2.out; rw [seg_len, ← hk] at this; exact this)
        rw [← hk]
        have Hk := Lib.hid hk
        clear hk
        go_wp2_with fail
        refine L2'.out.mono ?_
        rintro e w' ⟨rfl, rfl⟩
        go_wp2
        go_roundw
        case rel => exact ⟨o, i + 1, by omega, by omega, by omega, rfl, by go_num, Q2.out, B2.out⟩
        case measure => simp [intOf]; omega
      · go_wp2_with fail
        refine (queue_full wa.heap.size wa.heap.size m _ (i : Int) _ Q.out (by rw [seg_len]; omega)).mono ?_
        rintro e w2 ⟨rfl, k0, rfl⟩
        obtain ⟨l, hl⟩ : ∃ l, i - o = l + 1 := ⟨i - o - 1, by omega⟩
        have Q2 : Hid (Queue wa.heap.size (wr.drewN k0) wa.heap.size m ((o : Int) :: seg (o + 1) l)) := Lib.hid (by
          rw [← seg_cons, ← hl]; exact Q.out.below (below_drewN (Below.refl _ _) k0))
        have Hl := Lib.hid hl
        have P2 := Lib.hid (queue_pop wa.heap.size wa.heap.size m (o : Int) (seg (o + 1) l) (wr.drewN k0) Q2.out (by omega) Bl.out.size)
        clear hl
        go_wp2_with fail
        refine P2.out.mono ?_
        rintro e w3 ⟨rfl, q3, b3⟩
        have B3 := Lib.hid ((below_drewN Bl.out k0).trans b3)
        have P3 := Lib.hid (queue_push wa.heap.size wa.heap.size m (seg (o + 1) l) (i : Int) w3 q3 (by rw [seg_len]; have := Hl.out; omega) (by omega) B3.out.size)
        clear q3 b3
        go_wp2_with fail
        refine P3.out.mono ?_
        rintro e w4 ⟨rfl, q4, b4⟩
        have Q4 : Hid (Queue wa.heap.size w4 wa.heap.size m (seg (o + 1) (i + 1 - (o + 1)))) := Lib.hid (by
          have := Hl.out
          rw [show i + 1 - (o + 1) = l + 1 by omega, ← seg_snoc, show o + 1 + l = i by omega]; exact q4)
        have B4 := Lib.hid (B3.out.trans b4)
        have L4 := Lib.hid (queue_len wa.heap.size wa.heap.size m _ w4 Q4.out)
        clear q4 b4
        obtain ⟨k, hk⟩ : ∃ k, k = i + 1 - (o + 1) := ⟨_, rfl⟩
        have hkm : (k : Int) ≤ (m : Int) := by omega
        have hkn : ((k : Int) != (i : Int) + 1 - ((o : Int) + 1)) = false := by rw [bne_eq_false_iff_eq]; omega
        have L4' : Hid (Calls Try.prog 14 #[.pointer (some ⟨wa.heap.size, 0, none⟩)] w4 fun e w' => e = .returned (.int .i64 k) ∧ w4 = w') := Lib.hid (by have := L4.out; rw [seg_len, ← hk] at this; exact this)
        have Hk := Lib.hid hk
        clear hk
        go_wp2_with fail
        refine L4'.out.mono ?_
        rintro e w' ⟨rfl, rfl⟩
        go_wp2_with fail
        refine L4'.out.mono ?_
        rintro e w' ⟨rfl, rfl⟩
        go_wp2
        go_roundw
        case rel => exact ⟨o + 1, i + 1, by omega, by omega, by omega, by go_num, by go_num, Q4.out, B4.out⟩
        case measure => simp [intOf]; omega
    · go_wp2
      go_ret
      exact ⟨rfl, HB.out.trans (Bl.out.mono HB.out.size)⟩

end Go.Proofs.Ytgombejncjcjhab
