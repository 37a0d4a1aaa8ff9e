/-
  The law KnitRow, walked: it returns true for every length of a row, joined from either end.
  Conditions: none.
-/
import Derived.Test.YthpcaamfcmjnmaaWake3
import Derived.Deep.CutRange
namespace Go.Proofs.Ythpcaamfcmjnmaa
open Go.RowKit
set_option linter.unusedVariables false

/-- the smallest elements when i pairs of a row of m have been joined, from the front or from the back -/
def rowR (back : Bool) (m i : Nat) : Nat → Nat := fun c => if back then (if m - 1 - i ≤ c ∧ c < m then m - 1 - i else c) else (if c ≤ i then 0 else c)

/-- which pair is joined next -/
def rowA (back : Bool) (m i : Nat) : Nat := if back then m - 2 - i else i

theorem row_start (back : Bool) (m : Nat) (hm : 1 ≤ m) : (fun c => c) = rowR back m 0 := by
  funext c
  cases back
  · simp only [rowR, Bool.false_eq_true, if_false]
    split <;> omega
  · simp only [rowR, if_true]
    split <;> omega

theorem rowF (m i c : Nat) : rowR false m i c = if c ≤ i then 0 else c := by simp [rowR]
theorem rowB (m i c : Nat) : rowR true m i c = if m - 1 - i ≤ c ∧ c < m then m - 1 - i else c := by simp [rowR]

theorem row_at (back : Bool) (m i : Nat) (h : i + 1 < m) : (rowR back m i (rowA back m i) = if back then m - 2 - i else 0) ∧ rowR back m i (rowA back m i + 1) = if back then m - 1 - i else i + 1 := by
  cases back
  · constructor
    · simp [rowF, rowA]
    · simp [rowF, rowA]
  · constructor
    · rw [rowB]; simp only [rowA, if_true]; rw [if_neg (by omega)]
    · rw [rowB]; simp only [rowA, if_true]; rw [if_pos (by omega)]

theorem row_step (back : Bool) (m i : Nat) (h : i + 1 < m) : joined (rowR back m i) (rowA back m i) (rowA back m i + 1) = rowR back m (i + 1) := by
  funext c
  obtain ⟨e1, e2⟩ := row_at back m i h
  unfold joined
  rw [e1, e2]
  cases back
  · simp only [Bool.false_eq_true, if_false]
    rw [rowF, rowF]
    by_cases h1 : c ≤ i
    · rw [if_pos h1, if_neg (by omega), if_pos (by omega)]
    · rw [if_neg h1]
      by_cases h2 : c = i + 1
      · rw [if_pos (by omega), if_pos (by omega)]; omega
      · rw [if_neg (by omega), if_neg (by omega)]
  · simp only [if_true]
    rw [rowB, rowB]
    by_cases h1 : m - 1 - i ≤ c ∧ c < m
    · rw [if_pos h1, if_pos (by omega), if_pos (by omega)]; omega
    · rw [if_neg h1, if_neg (by omega)]
      by_cases h2 : c = m - 2 - i
      · rw [if_pos (by omega)]; omega
      · rw [if_neg (by omega)]

theorem row_new (back : Bool) (m i : Nat) (h : i + 1 < m) : decide (rowR back m i (rowA back m i) ≠ rowR back m i (rowA back m i + 1)) = true := by
  simp only [decide_eq_true_eq]
  obtain ⟨e1, e2⟩ := row_at back m i h
  rw [e1, e2]
  cases back
  · simp
  · simp; omega

theorem row_old (back : Bool) (m i : Nat) (h : i + 1 < m) : rowR back m (i + 1) (rowA back m i + 1) = rowR back m (i + 1) (rowA back m i) := by
  cases back
  · rw [rowF, rowF]; simp only [rowA, Bool.false_eq_true, if_false]; rw [if_pos (by omega), if_pos (by omega)]
  · rw [rowB, rowB]; simp only [rowA, if_true]; rw [if_pos (by omega), if_pos (by omega)]

theorem row_end (back : Bool) (m c : Nat) (hc : c < m) : rowR back m (m - 1) c = 0 := by
  cases back
  · simp only [rowR, Bool.false_eq_true, if_false]; split <;> omega
  · simp only [rowR, if_true]; split <;> omega

theorem row_groups (rho : Nat → Nat) (m : Nat) (hm : 1 ≤ m) (h : ∀ c, c < m → rho c = 0) : groupsOf rho m = [List.range m] := by
  have hr : roots rho m = [0] := by
    obtain ⟨n, rfl⟩ : ∃ n, m = n + 1 := ⟨m - 1, by omega⟩
    unfold roots
    rw [List.range_succ_eq_map, List.filter_cons, if_pos (by simp [h 0 (by omega)])]
    congr 1
    rw [List.filter_eq_nil_iff]
    intro c hc
    simp at hc
    obtain ⟨a, ha, rfl⟩ := hc
    simp [h (a + 1) (by omega)]
  unfold groupsOf
  rw [hr]
  simp only [List.map_cons, List.map_nil]
  congr 1
  rw [List.filter_eq_self]
  intro c hc
  simp at hc
  simp [h c hc]

set_option maxRecDepth 100000 in
set_option maxHeartbeats 2000000 in
theorem row_law (N : Nat) (hN : N ≤ 255) (back : Bool) (w : World) :
    Calls Try.prog 6 #[.int .u8 N, .bool back] w fun e w' => e = .returned (.bool true) ∧ Below w.heap.size w w' := by
  obtain ⟨m, hm⟩ : ∃ m, m = N + 1 := ⟨_, rfl⟩
  go_enter Try.func6, Try.ntmps6
  go_wp2_with fail
  have hm1 : 1 + (N : Int) = (m : Int) := by omega
  rw [hm1]
  have hm256 : m ≤ 256 := by omega
  have hm0 : 1 ≤ m := by omega
  clear hm1 hm
  refine (new_any m (by omega) w).mono ?_
  rintro e w1 ⟨rfl, h1, b1⟩
  rw [row_start back m (by omega)] at h1
  have H1 := Lib.hid h1
  have B1 := Lib.hid b1
  clear h1 b1
  go_wp2
  go_loopw [7] (fun t wr => ∃ i : Nat, i + 1 ≤ m ∧ t = .int .i64 i ∧ KnitAt w.heap.size wr (w.heap.size + 1) w.heap.size m (rowR back m i) ∧ Below w.heap.size w wr) (fun t _ => m - (intOf t).toNat)
  case atStart => exact ⟨0, by omega, rfl, H1.out, B1.out⟩
  case round =>
    obtain ⟨i, hi, rfl, hk, hb⟩ := hrel
    have K := Lib.hid hk
    have Bk := Lib.hid hb
    clear hk hb
    by_cases hlt : i + 1 < m
    · obtain ⟨a, ha⟩ : ∃ a, a = rowA back m i := ⟨_, rfl⟩
      have ham : a + 1 < m := by rw [ha]; unfold rowA; split <;> omega
      have Ha := Lib.hid ha
      clear ha
      go_upto_if 22 with fail
      go_cut [7, 8] from 15 to 39 (fun s t wc => s = .int .i64 i ∧ t = .int .i64 a ∧ wr = wc)
      case first =>
        cases back with
        | true =>
          have hai : (m : Int) - 2 - (i : Int) = (a : Int) := by rw [Ha.out]; unfold rowA; simp; omega
          go_wp2
          go_meet
          case rel => exact ⟨rfl, by go_num, rfl⟩
        | false =>
          have hai : Hid (a = i) := Lib.hid (by rw [Ha.out]; rfl)
          go_wp2
          go_meet
          case rel => exact ⟨rfl, by rw [hai.out], rfl⟩
      case rest =>
        obtain ⟨rfl, rfl, rfl⟩ := hcut
        obtain ⟨a1, ha1⟩ : ∃ a1 : Nat, (a : Int) + 1 = a1 := ⟨a + 1, by omega⟩
        have ha2 : Hid (a1 = a + 1) := Lib.hid (by omega)
        go_wp2_with fail
        refine (join_in a a1 K.out (by omega) (by omega)).mono ?_
        rintro e w2 ⟨rfl, h2, k2⟩
        have B2 := Lib.hid (Bk.out.trans (K.out.belowB k2))
        have hnew := row_new back m i hlt
        have hstep := row_step back m i hlt
        have hold := row_old back m i hlt
        rw [← Ha.out, ← ha2.out] at hnew hstep hold
        rw [hnew]
        rw [hstep] at h2
        have H2 := Lib.hid h2
        have Hold := Lib.hid hold
        clear h2 k2 K Bk hnew hstep hold
        go_wp2_with fail
        refine (join_in a1 a H2.out (by omega) (by omega)).mono ?_
        rintro e w3 ⟨rfl, h3, k3⟩
        have B3 := Lib.hid (B2.out.trans (H2.out.belowB k3))
        rw [joined_same a1 a Hold.out] at h3
        rw [show decide (rowR back m (i + 1) a1 ≠ rowR back m (i + 1) a) = false by simp [Hold.out]]
        have H3 := Lib.hid h3
        clear h3 k3 H2 B2
        go_wp2
        go_roundw
        case rel => exact ⟨i + 1, by omega, by go_num, H3.out, B3.out⟩
        case measure => simp [intOf]; omega
    · obtain rfl : i = m - 1 := by omega
      go_wp2_with fail
      refine (groups_any _ K.out).mono ?_
      rintro e w2 ⟨v, vs, rfl, hR, h2, k2⟩
      have B2 := Lib.hid (Bk.out.trans (K.out.belowB k2))
      rw [row_groups _ m (by omega) (fun c hc => row_end back m c hc)] at hR
      obtain ⟨r, cap, rfl, hrB, hrl, hcell⟩ := hR.place (by simp)
      obtain ⟨a0, c0, hf0⟩ := hR.rowform 0 (by simp)
      have hc0 := (hcell 0 (by simp)).1
      rw [hf0] at hc0
      simp only [List.getD, List.getElem?_cons_zero, Option.getD_some, List.length_range] at hc0
      have H2 := Lib.hid h2
      clear h2 k2 K Bk hR hcell hf0
      go_wp2_with fail
      refine (awake3 _).mono ?_
      rintro e w3 ⟨rfl, b3⟩
      have B3 := Lib.hid (B2.out.trans (b3.mono B2.out.size))
      have H3 := Lib.hid (H2.out.below b3)
      have hc3 := (b3.cell (p := ⟨r, 0, none⟩) hrl).trans hc0
      clear b3 hc0 H2 B2
      obtain ⟨m1, hm1⟩ : ∃ m1 : Nat, (m : Int) - 1 = m1 := ⟨m - 1, by omega⟩
      go_wp2_with fail
      refine (find_in m1 H3.out (by omega)).mono ?_
      rintro e w4 ⟨rfl, h4, k4⟩
      have B4 := Lib.hid (B3.out.trans (H3.out.belowB k4))
      rw [row_end back m m1 (by omega)]
      clear h4 k4 H3 B3
      go_wp2
      go_ret
      exact ⟨rfl, B4.out⟩

theorem row_lawI (n : Int) (h1 : 0 ≤ n) (h2 : n ≤ 255) (back : Bool) (w : World) :
    Calls Try.prog 6 #[.int .u8 n, .bool back] w fun e w' => e = .returned (.bool true) ∧ Below w.heap.size w w' := by
  obtain ⟨N, rfl⟩ : ∃ N : Nat, n = N := ⟨n.toNat, by omega⟩
  exact row_law N (by omega) back w

end Go.Proofs.Ythpcaamfcmjnmaa
