/-
  The law TraySame, walked: it returns true for every key and every number of times up to 255.
  Conditions: n is a byte.
-/
import Derived.Test.YtgombejncjcjhabWake
namespace Go.Proofs.Ytgombejncjcjhab
open Go.RowKit
set_option linter.unusedVariables false

theorem at4_rep (n : Nat) (k : Key4) : at4 (List.replicate (n + 1) k) 0 = k := by simp [at4]

set_option maxHeartbeats 2000000 in
theorem same_law (k1 k2 k3 k4 : Int) (n : Nat) (hn : n ≤ 255) (w : World) :
    Calls Try.prog 3 #[.agg #[.int .i64 k1, .int .i64 k2, .int .i64 k3, .int .i64 k4], .int .u8 n] w fun e w' => e = .returned (.bool true) ∧ Below w.heap.size w w' := by
  obtain ⟨k, hk⟩ : ∃ k : Key4, k = (k1, k2, k3, k4) := ⟨_, rfl⟩
  have Hk := Lib.hid hk
  clear hk
  obtain ⟨w0, hw0⟩ : ∃ w0, w0 = (w.alloc (.cells #[.int .i64 k1, .int .i64 k2, .int .i64 k3, .int .i64 k4] 23)).alloc (.cells #[.slice none 0 0] 27) := ⟨_, rfl⟩
  have hs0 : w0.heap.size = w.heap.size + 2 := by rw [hw0]; simp
  have hb0 : Below w.heap.size w w0 := by rw [hw0]; exact below_two _ _
  have hh0 : HeapAt (w.heap.size + 1) w0 (w.heap.size + 1) (.slice none 0 0) [] := by
    have := heap_new (w.alloc (.cells #[.int .i64 k1, .int .i64 k2, .int .i64 k3, .int .i64 k4] 23))
    rw [show (w.alloc (.cells #[.int .i64 k1, .int .i64 k2, .int .i64 k3, .int .i64 k4] 23)).heap.size = w.heap.size + 1 by simp, ← hw0] at this
    exact this
  have hc : ∀ (wr : World), Below (w.heap.size + 1) w0 wr → wr.cell? ⟨w.heap.size, 0, none⟩ = some (.int .i64 k1) ∧ wr.cell? ⟨w.heap.size, 1, none⟩ = some (.int .i64 k2) ∧ wr.cell? ⟨w.heap.size, 2, none⟩ = some (.int .i64 k3) ∧ wr.cell? ⟨w.heap.size, 3, none⟩ = some (.int .i64 k4) := by
    intro wr hb
    have e : wr.heap[w.heap.size]? = some (.cells #[.int .i64 k1, .int .i64 k2, .int .i64 k3, .int .i64 k4] 23 (0, 0)) := by
      rw [hb.block _ (by omega), hw0, Below.heap_alloc _ _ _ (by simp)]
      exact heap_alloc_new w _
    refine ⟨?_, ?_, ?_, ?_⟩ <;> (rw [cell_of_row _ _ _ _ _ (0, 0) e]; rfl)
  have Hc := Lib.hid hc
  have Hh0 := Lib.hid hh0
  have Hb0 := Lib.hid hb0
  have Hs0 := Lib.hid hs0
  have Hw0 := Lib.hid hw0
  clear hc hh0 hb0 hs0 hw0
  go_enter Try.func3, Try.ntmps3
  go_wp2
  go_loopw [6] (fun t wr => ∃ i : Nat, ∃ v : Value, i ≤ n ∧ t = .int .i64 i ∧ HeapAt (w.heap.size + 1) wr (w.heap.size + 1) v (List.replicate i k) ∧ Below (w.heap.size + 1) w0 wr) (fun t _ => n - (intOf t).toNat)
  case atStart => exact ⟨0, _, Nat.zero_le _, rfl, by rw [← Hw0.out]; exact Hh0.out, by rw [← Hw0.out]; exact Below.refl _ _⟩
  case round =>
    obtain ⟨i, v, hi, rfl, hh, hb⟩ := hrel
    have Hh := Lib.hid hh
    have Hb := Lib.hid hb
    obtain ⟨c1, c2, c3, c4⟩ := Hc.out _ hb
    clear hh hb
    by_cases hlt : i < n
    · go_wp2_with fail
      refine (push_any (w.heap.size + 1) (w.heap.size + 1) v (List.replicate i k) k1 k2 k3 k4 _ Hh.out (by simp; omega) (by have := Hb.out.size; have := Hs0.out; omega)).mono ?_
      rintro e w1 ⟨rfl, hk1, v1, ks1, hp1, h1, _⟩
      have hks : ks1 = List.replicate (i + 1) k := List.perm_replicate.1 (by rw [← Hk.out] at hp1; exact hp1)
      rw [hks] at h1
      have H1 := Lib.hid h1
      have B1 := Lib.hid (Hb.out.trans (heap_below Hh.out hk1 (by have := Hb.out.size; have := Hs0.out; omega)))
      clear hk1 hp1 h1 hks
      go_wp2
      go_roundw
      case rel => exact ⟨i + 1, v1, by omega, by go_num, H1.out, B1.out⟩
      case measure => simp [intOf]; omega
    · obtain rfl : i = n := by omega
      clear c1 c2 c3 c4
      go_wp2
      go_loopw [7] (fun t wr => ∃ j : Nat, ∃ v : Value, j ≤ i ∧ t = .int .i64 j ∧ HeapAt (w.heap.size + 1) wr (w.heap.size + 1) v (List.replicate (i - j) k) ∧ Below (w.heap.size + 1) w0 wr) (fun t _ => i - (intOf t).toNat)
      case atStart => exact ⟨0, v, Nat.zero_le _, rfl, Hh.out, Hb.out⟩
      case round =>
        obtain ⟨j, v2, hj, rfl, hh2, hb2⟩ := hrel
        have Hh2 := Lib.hid hh2
        have Hb2 := Lib.hid hb2
        clear hh2 hb2
        by_cases hlt2 : j < i
        · obtain ⟨m, hm⟩ : ∃ m, i - j = m + 1 := ⟨i - j - 1, by omega⟩
          rw [hm] at Hh2
          have Hm := Lib.hid hm
          clear hm
          go_wp2_with fail
          refine (pop_some (w.heap.size + 1) (w.heap.size + 1) v2 (List.replicate (m + 1) k) _ Hh2.out (by simp) (by simp; have := Hm.out; omega)).mono ?_
          rintro e w3 ⟨rfl, hk3, v3, ks3, hp3, h3, _⟩
          rw [at4_rep] at hp3 ⊢
          have hks : ks3 = List.replicate m k := List.perm_replicate.1 ((List.perm_cons k).1 hp3)
          rw [hks] at h3
          have B3 := Lib.hid (Hb2.out.trans (heap_below Hh2.out hk3 (by have := Hb2.out.size; have := Hs0.out; omega)))
          have H3 := Lib.hid h3
          obtain ⟨c1, c2, c3, c4⟩ := Hc.out _ B3.out
          have hsz : w.heap.size < w3.heap.size := by have := B3.out.size; have := Hs0.out; omega
          have hml : ((m : Nat) : Int) = (i : Int) - (j : Int) - 1 := by have := Hm.out; omega
          have HL := Lib.hid (len_any (w.heap.size + 1) (w.heap.size + 1) v3 (List.replicate m k) _ (H3.out.below ((Below.refl _ _).alloc (Nat.le_refl _) (.cells #[.int .i64 k1, .int .i64 k2, .int .i64 k3, .int .i64 k4] 23))))
          rw [Hk.out]
          clear hk3 hp3 h3 hks
          go_wp2_with fail
          refine HL.out.mono ?_
          rintro e w' ⟨rfl, rfl⟩
          rw [List.length_replicate, hml]
          clear hml
          go_wp2
          go_roundw
          case rel => exact ⟨j + 1, v3, by omega, by go_num, (by rw [show i - (j + 1) = m by have := Hm.out; omega]; exact H3.out.below ((Below.refl _ _).alloc (Nat.le_refl _) _)), B3.out.alloc (by omega) _⟩
          case measure => simp [intOf]; omega
        · obtain rfl : j = i := by omega
          rw [Nat.sub_self] at Hh2
          go_wp2_with fail
          refine (awake2 _).mono ?_
          rintro e w4 ⟨rfl, hb4⟩
          have HL := Lib.hid (len_any (w.heap.size + 1) (w.heap.size + 1) v2 (List.replicate 0 k) _ (Hh2.out.below hb4))
          have HF := Lib.hid (Hb0.out.trans ((Hb2.out.trans (hb4.mono (by have := Hb2.out.size; have := Hs0.out; omega))).mono (by omega)))
          clear hb4
          go_wp2_with fail
          refine HL.out.mono ?_
          rintro e w' ⟨rfl, rfl⟩
          rw [List.length_replicate]
          go_wp2
          go_ret
          exact ⟨rfl, HF.out⟩

theorem same_lawI (k1 k2 k3 k4 a : Int) (h0 : 0 ≤ a) (h1 : a ≤ 255) (w : World) :
    Calls Try.prog 3 #[.agg #[.int .i64 k1, .int .i64 k2, .int .i64 k3, .int .i64 k4], .int .u8 a] w fun e w' => e = .returned (.bool true) ∧ Below w.heap.size w w' := by
  obtain ⟨n, rfl⟩ := Int.eq_ofNat_of_zero_le h0
  exact same_law k1 k2 k3 k4 n (by omega) w

end Go.Proofs.Ytgombejncjcjhab
