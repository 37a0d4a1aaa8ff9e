/-
  The law KnitEnds, walked: it returns true for every int8 and every int.
  Conditions: none.
-/
import Derived.Test.YthpcaamfcmjnmaaWake3
namespace Go.Proofs.Ythpcaamfcmjnmaa
open Go.RowKit
set_option linter.unusedVariables false

set_option maxRecDepth 100000 in
set_option maxHeartbeats 2000000 in
theorem ends_neg_low (n a : Int) (hn1 : -128 ≤ n) (hn : n < 0) (ha : a < 0) (w : World) :
    Calls Try.prog 5 #[.int .i8 n, .int .i64 a] w fun e w' => e = .returned (.bool true) ∧ Below w.heap.size w w' := by
  go_enter Try.func5, Try.ntmps5
  go_wp2_with fail
  refine (new_neg n hn w).mono ?_
  rintro e w1 ⟨rfl, h1, b1⟩
  go_wp2_with fail
  refine (awake3 _).mono ?_
  rintro e w2 ⟨rfl, b2⟩
  have h2 := h1.below b2
  have B2 := Lib.hid (b1.trans (b2.mono b1.size))
  clear h1 b1 b2
  go_wp2_with fail
  refine (find_out a h2 (by omega)).mono ?_
  rintro e w3 ⟨rfl, rfl⟩
  have k3 := Kept.refl (fun k => k = w.heap.size) w2
  have h3 := h2
  have B3 := Lib.hid (B2.out.trans (h2.belowB k3))
  clear h2 k3 B2
  go_wp2_with fail
  refine (same_out a a h3 (by omega)).mono ?_
  rintro e w4 ⟨rfl, rfl⟩
  have h4 := h3
  have k4 := Kept.refl (fun k => k = w.heap.size) w2
  have B4 := Lib.hid (B3.out.trans (h3.belowB k4))
  clear h3 k4 B3
  go_wp2_with fail
  refine (join_out a a h4 (by omega)).mono ?_
  rintro e w5 ⟨rfl, h5, k5⟩
  have B5 := Lib.hid (B4.out.trans (h4.belowB k5))
  clear h4 k5 B4
  go_wp2_with fail
  refine (join_out (-1) a h5 (by omega)).mono ?_
  rintro e w6 ⟨rfl, h6, k6⟩
  have B6 := Lib.hid (B5.out.trans (h5.belowB k6))
  clear h5 k6 B5
  go_wp2_with fail
  refine (groups_any _ h6).mono ?_
  rintro e w7 ⟨v, vs, rfl, hR, h7, k7⟩
  have B7 := Lib.hid (B6.out.trans (h6.belowB k7))
  obtain ⟨av, cap, rfl⟩ := hR.form
  rw [groups_id_len]
  clear h6 k7 B6 hR h7
  go_wp2_with fail
  refine (find_nil a _).mono ?_
  rintro e w8 ⟨rfl, rfl⟩
  go_wp2_with fail
  refine (join_nil a 0 _).mono ?_
  rintro e w9 ⟨rfl, b9⟩
  have B9 := Lib.hid (B7.out.trans (b9.mono B7.out.size))
  clear b9 B7
  go_wp2_with fail
  refine (same_nil a a _).mono ?_
  rintro e w10 ⟨rfl, rfl⟩
  go_wp2_with fail
  refine (groups_nil _).mono ?_
  rintro e w11 ⟨rfl, rfl⟩
  go_wp2
  go_ret
  exact ⟨rfl, B9.out⟩

set_option maxRecDepth 100000 in
set_option maxHeartbeats 2000000 in
theorem ends_neg_high (n a : Int) (hn1 : -128 ≤ n) (hn : n < 0) (ha : 0 ≤ a) (hd : decide (a < 0) = false) (w : World) :
    Calls Try.prog 5 #[.int .i8 n, .int .i64 a] w fun e w' => e = .returned (.bool true) ∧ Below w.heap.size w w' := by
  go_enter Try.func5, Try.ntmps5
  go_wp2_with fail
  refine (new_neg n hn w).mono ?_
  rintro e w1 ⟨rfl, h1, b1⟩
  go_wp2_with fail
  refine (awake3 _).mono ?_
  rintro e w2 ⟨rfl, b2⟩
  have h2 := h1.below b2
  have B2 := Lib.hid (b1.trans (b2.mono b1.size))
  clear h1 b1 b2
  go_wp2_with fail
  refine (find_out a h2 (by omega)).mono ?_
  rintro e w3 ⟨rfl, rfl⟩
  have k3 := Kept.refl (fun k => k = w.heap.size) w2
  have h3 := h2
  have B3 := Lib.hid (B2.out.trans (h2.belowB k3))
  clear h2 k3 B2
  go_wp2_with fail
  refine (same_out a a h3 (by omega)).mono ?_
  rintro e w4 ⟨rfl, rfl⟩
  have h4 := h3
  have k4 := Kept.refl (fun k => k = w.heap.size) w2
  have B4 := Lib.hid (B3.out.trans (h3.belowB k4))
  clear h3 k4 B3
  go_wp2_with fail
  refine (join_out a a h4 (by omega)).mono ?_
  rintro e w5 ⟨rfl, h5, k5⟩
  have B5 := Lib.hid (B4.out.trans (h4.belowB k5))
  clear h4 k5 B4
  go_wp2_with fail
  refine (join_out (-1) a h5 (by omega)).mono ?_
  rintro e w6 ⟨rfl, h6, k6⟩
  have B6 := Lib.hid (B5.out.trans (h5.belowB k6))
  clear h5 k6 B5
  go_wp2_with fail
  refine (groups_any _ h6).mono ?_
  rintro e w7 ⟨v, vs, rfl, hR, h7, k7⟩
  have B7 := Lib.hid (B6.out.trans (h6.belowB k7))
  obtain ⟨av, cap, rfl⟩ := hR.form
  rw [groups_id_len]
  clear h6 k7 B6 hR h7
  go_wp2_with fail
  refine (find_nil a _).mono ?_
  rintro e w8 ⟨rfl, rfl⟩
  go_wp2_with fail
  refine (join_nil a 0 _).mono ?_
  rintro e w9 ⟨rfl, b9⟩
  have B9 := Lib.hid (B7.out.trans (b9.mono B7.out.size))
  clear b9 B7
  go_wp2_with fail
  refine (same_nil a a _).mono ?_
  rintro e w10 ⟨rfl, rfl⟩
  go_wp2_with fail
  refine (groups_nil _).mono ?_
  rintro e w11 ⟨rfl, rfl⟩
  go_wp2
  go_ret
  exact ⟨rfl, B9.out⟩

set_option maxRecDepth 100000 in
set_option maxHeartbeats 2000000 in
theorem ends_in (m a : Nat) (hm : m ≤ 127) (ha : a < m) (w : World) :
    Calls Try.prog 5 #[.int .i8 m, .int .i64 a] w fun e w' => e = .returned (.bool true) ∧ Below w.heap.size w w' := by
  go_enter Try.func5, Try.ntmps5
  go_wp2_with fail
  refine (new_any m (by omega) w).mono ?_
  rintro e w1 ⟨rfl, h1, b1⟩
  go_wp2_with fail
  refine (awake3 _).mono ?_
  rintro e w2 ⟨rfl, b2⟩
  have h2 := h1.below b2
  have B2 := Lib.hid (b1.trans (b2.mono b1.size))
  clear h1 b1 b2
  go_wp2_with fail
  refine (find_in a h2 (by omega)).mono ?_
  rintro e w3 ⟨rfl, h3, k3⟩
  have B3 := Lib.hid (B2.out.trans (h2.belowB k3))
  clear h2 k3 B2
  go_wp2_with fail
  refine (same_in a a h3 (by omega) (by omega)).mono ?_
  rintro e w4 ⟨rfl, h4, k4⟩
  have hd : decide ((fun c : Nat => c) a = (fun c : Nat => c) a) = true := by simp
  rw [hd]
  have B4 := Lib.hid (B3.out.trans (h3.belowB k4))
  clear h3 k4 B3
  go_wp2_with fail
  refine (join_in a a h4 (by omega) (by omega)).mono ?_
  rintro e w5 ⟨rfl, h5, k5⟩
  rw [joined_same a a rfl] at h5
  have hd2 : decide ((fun c : Nat => c) a ≠ (fun c : Nat => c) a) = false := by simp
  rw [hd2]
  have B5 := Lib.hid (B4.out.trans (h4.belowB k5))
  clear h4 k5 B4
  go_wp2_with fail
  refine (join_out (-1) a h5 (by omega)).mono ?_
  rintro e w6 ⟨rfl, h6, k6⟩
  have B6 := Lib.hid (B5.out.trans (h5.belowB k6))
  clear h5 k6 B5
  go_wp2_with fail
  refine (groups_any _ h6).mono ?_
  rintro e w7 ⟨v, vs, rfl, hR, h7, k7⟩
  have B7 := Lib.hid (B6.out.trans (h6.belowB k7))
  obtain ⟨av, cap, rfl⟩ := hR.form
  rw [groups_id_len]
  clear h6 k7 B6 hR h7
  go_wp2_with fail
  refine (find_nil a _).mono ?_
  rintro e w8 ⟨rfl, rfl⟩
  go_wp2_with fail
  refine (join_nil a 0 _).mono ?_
  rintro e w9 ⟨rfl, b9⟩
  have B9 := Lib.hid (B7.out.trans (b9.mono B7.out.size))
  clear b9 B7
  go_wp2_with fail
  refine (same_nil a a _).mono ?_
  rintro e w10 ⟨rfl, rfl⟩
  go_wp2_with fail
  refine (groups_nil _).mono ?_
  rintro e w11 ⟨rfl, rfl⟩
  go_wp2
  go_ret
  exact ⟨rfl, B9.out⟩

set_option maxRecDepth 100000 in
set_option maxHeartbeats 2000000 in
theorem ends_low (m : Nat) (a : Int) (hm : m ≤ 127) (ha : a < 0) (w : World) :
    Calls Try.prog 5 #[.int .i8 m, .int .i64 a] w fun e w' => e = .returned (.bool true) ∧ Below w.heap.size w w' := by
  go_enter Try.func5, Try.ntmps5
  go_wp2_with fail
  refine (new_any m (by omega) w).mono ?_
  rintro e w1 ⟨rfl, h1, b1⟩
  go_wp2_with fail
  refine (awake3 _).mono ?_
  rintro e w2 ⟨rfl, b2⟩
  have h2 := h1.below b2
  have B2 := Lib.hid (b1.trans (b2.mono b1.size))
  clear h1 b1 b2
  go_wp2_with fail
  refine (find_out a h2 (by omega)).mono ?_
  rintro e w3 ⟨rfl, rfl⟩
  have k3 := Kept.refl (fun k => k = w.heap.size) w2
  have h3 := h2
  have B3 := Lib.hid (B2.out.trans (h2.belowB k3))
  clear h2 k3 B2
  go_wp2_with fail
  refine (same_out a a h3 (by omega)).mono ?_
  rintro e w4 ⟨rfl, rfl⟩
  have h4 := h3
  have k4 := Kept.refl (fun k => k = w.heap.size) w2
  have B4 := Lib.hid (B3.out.trans (h3.belowB k4))
  clear h3 k4 B3
  go_wp2_with fail
  refine (join_out a a h4 (by omega)).mono ?_
  rintro e w5 ⟨rfl, h5, k5⟩
  have B5 := Lib.hid (B4.out.trans (h4.belowB k5))
  clear h4 k5 B4
  go_wp2_with fail
  refine (join_out (-1) a h5 (by omega)).mono ?_
  rintro e w6 ⟨rfl, h6, k6⟩
  have B6 := Lib.hid (B5.out.trans (h5.belowB k6))
  clear h5 k6 B5
  go_wp2_with fail
  refine (groups_any _ h6).mono ?_
  rintro e w7 ⟨v, vs, rfl, hR, h7, k7⟩
  have B7 := Lib.hid (B6.out.trans (h6.belowB k7))
  obtain ⟨av, cap, rfl⟩ := hR.form
  rw [groups_id_len]
  clear h6 k7 B6 hR h7
  go_wp2_with fail
  refine (find_nil a _).mono ?_
  rintro e w8 ⟨rfl, rfl⟩
  go_wp2_with fail
  refine (join_nil a 0 _).mono ?_
  rintro e w9 ⟨rfl, b9⟩
  have B9 := Lib.hid (B7.out.trans (b9.mono B7.out.size))
  clear b9 B7
  go_wp2_with fail
  refine (same_nil a a _).mono ?_
  rintro e w10 ⟨rfl, rfl⟩
  go_wp2_with fail
  refine (groups_nil _).mono ?_
  rintro e w11 ⟨rfl, rfl⟩
  go_wp2
  go_ret
  exact ⟨rfl, B9.out⟩

set_option maxRecDepth 100000 in
set_option maxHeartbeats 2000000 in
theorem ends_high (m : Nat) (a : Int) (hm : m ≤ 127) (ha : 0 ≤ a) (ha2 : (m : Int) ≤ a) (hd : decide (a < (m : Int)) = false) (w : World) :
    Calls Try.prog 5 #[.int .i8 m, .int .i64 a] w fun e w' => e = .returned (.bool true) ∧ Below w.heap.size w w' := by
  go_enter Try.func5, Try.ntmps5
  go_wp2_with fail
  refine (new_any m (by omega) w).mono ?_
  rintro e w1 ⟨rfl, h1, b1⟩
  go_wp2_with fail
  refine (awake3 _).mono ?_
  rintro e w2 ⟨rfl, b2⟩
  have h2 := h1.below b2
  have B2 := Lib.hid (b1.trans (b2.mono b1.size))
  clear h1 b1 b2
  go_wp2_with fail
  refine (find_out a h2 (by omega)).mono ?_
  rintro e w3 ⟨rfl, rfl⟩
  have k3 := Kept.refl (fun k => k = w.heap.size) w2
  have h3 := h2
  have B3 := Lib.hid (B2.out.trans (h2.belowB k3))
  clear h2 k3 B2
  go_wp2_with fail
  refine (same_out a a h3 (by omega)).mono ?_
  rintro e w4 ⟨rfl, rfl⟩
  have h4 := h3
  have k4 := Kept.refl (fun k => k = w.heap.size) w2
  have B4 := Lib.hid (B3.out.trans (h3.belowB k4))
  clear h3 k4 B3
  go_wp2_with fail
  refine (join_out a a h4 (by omega)).mono ?_
  rintro e w5 ⟨rfl, h5, k5⟩
  have B5 := Lib.hid (B4.out.trans (h4.belowB k5))
  clear h4 k5 B4
  go_wp2_with fail
  refine (join_out (-1) a h5 (by omega)).mono ?_
  rintro e w6 ⟨rfl, h6, k6⟩
  have B6 := Lib.hid (B5.out.trans (h5.belowB k6))
  clear h5 k6 B5
  go_wp2_with fail
  refine (groups_any _ h6).mono ?_
  rintro e w7 ⟨v, vs, rfl, hR, h7, k7⟩
  have B7 := Lib.hid (B6.out.trans (h6.belowB k7))
  obtain ⟨av, cap, rfl⟩ := hR.form
  rw [groups_id_len]
  clear h6 k7 B6 hR h7
  go_wp2_with fail
  refine (find_nil a _).mono ?_
  rintro e w8 ⟨rfl, rfl⟩
  go_wp2_with fail
  refine (join_nil a 0 _).mono ?_
  rintro e w9 ⟨rfl, b9⟩
  have B9 := Lib.hid (B7.out.trans (b9.mono B7.out.size))
  clear b9 B7
  go_wp2_with fail
  refine (same_nil a a _).mono ?_
  rintro e w10 ⟨rfl, rfl⟩
  go_wp2_with fail
  refine (groups_nil _).mono ?_
  rintro e w11 ⟨rfl, rfl⟩
  go_wp2
  go_ret
  exact ⟨rfl, B9.out⟩

theorem ends_law (n a : Int) (hn1 : -128 ≤ n) (hn2 : n ≤ 127) (w : World) :
    Calls Try.prog 5 #[.int .i8 n, .int .i64 a] w fun e w' => e = .returned (.bool true) ∧ Below w.heap.size w w' := by
  by_cases hn : n < 0
  · by_cases ha : a < 0
    · exact ends_neg_low n a hn1 hn ha w
    · exact ends_neg_high n a hn1 hn (by omega) (by simp; omega) w
  · obtain ⟨m, rfl⟩ : ∃ m : Nat, n = m := ⟨n.toNat, by omega⟩
    by_cases ha : a < 0
    · exact ends_low m a (by omega) ha w
    by_cases ha2 : ¬ a < (m : Int)
    · exact ends_high m a (by omega) (by omega) (by omega) (by simp; omega) w
    · obtain ⟨c, rfl⟩ : ∃ c : Nat, a = c := ⟨a.toNat, by omega⟩
      exact ends_in m c (by omega) (by omega) w

end Go.Proofs.Ythpcaamfcmjnmaa
