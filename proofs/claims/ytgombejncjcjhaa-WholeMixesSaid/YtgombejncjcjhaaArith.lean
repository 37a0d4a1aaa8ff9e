/-
  What the calls Add, Mul and Gcd of package whole, and the document's own Add and Gcd, come to for all ints (Gcd: above the smallest int).
  Conditions: each argument is an int; for Gcd none is the smallest int.
-/
import Derived.Test.YtgombejncjcjhaaRows
import Derived.WalkKit
import Derived.RegionTactic
import Derived.Deep.QuietTactic
import Derived.BigQuiet
import Derived.Lib.Hide
namespace Go.Proofs.Ytgombejncjcjhaa
open Go.RowKit

/-- an int -/
def I64 (a : Int) : Prop := -9223372036854775808 ≤ a ∧ a ≤ 9223372036854775807

theorem add_ok (a b : Int) (w : World) (ha : I64 a) (hb : I64 b) (hs : I64 (a + b)) :
    Calls Try.prog 15 #[.int .i64 a, .int .i64 b] w fun e w' => e = .returned (.tuple #[.int .i64 (a + b), .bool true]) ∧ w = w' := by
  unfold I64 at ha hb hs
  obtain ⟨ha1, ha2⟩ := ha
  obtain ⟨hb1, hb2⟩ := hb
  obtain ⟨hs1, hs2⟩ := hs
  by_cases h : b < 0
  · have h1 : decide (a + b < a) = true := by simp; omega
    go_enter Try.func15, Try.ntmps15
    go_wp2
    go_ret2
    exact ⟨rfl, rfl⟩
  · have h1 : decide (a + b < a) = false := by simp; omega
    go_enter Try.func15, Try.ntmps15
    go_wp2
    go_ret2
    exact ⟨rfl, rfl⟩

theorem add_no (a b : Int) (w : World) (ha : I64 a) (hb : I64 b) (hs : ¬ I64 (a + b)) :
    Calls Try.prog 15 #[.int .i64 a, .int .i64 b] w fun e w' => e = .returned (.tuple #[.int .i64 0, .bool false]) ∧ w = w' := by
  unfold I64 at ha hb hs
  obtain ⟨ha1, ha2⟩ := ha
  obtain ⟨hb1, hb2⟩ := hb
  by_cases h : b < 0
  · have h1 : decide (wrap64 (a + b) < a) = false := by unfold wrap64; simp; omega
    have h2 : decide (b < 0) = true := by simpa using h
    clear hs
    go_enter Try.func15, Try.ntmps15
    go_wp2
    go_ret2
    exact ⟨rfl, rfl⟩
  · have h1 : decide (wrap64 (a + b) < a) = true := by unfold wrap64; simp; omega
    have h2 : decide (b < 0) = false := by simpa using h
    clear hs
    go_enter Try.func15, Try.ntmps15
    go_wp2
    go_ret2
    exact ⟨rfl, rfl⟩

theorem radd_ok (a b : Int) (w : World) (ha : I64 a) (hb : I64 b) (hs : I64 (a + b)) :
    Calls Try.prog 16 #[.int .i64 a, .int .i64 b] w fun e w' => e = .returned (.tuple #[.int .i64 (a + b), .bool true]) ∧ w = w' := by
  unfold I64 at ha hb hs
  obtain ⟨ha1, ha2⟩ := ha
  obtain ⟨hb1, hb2⟩ := hb
  obtain ⟨hs1, hs2⟩ := hs
  go_enter Try.func16, Try.ntmps16
  go_wp2
  all_goals
    go_ret2
    exact ⟨rfl, rfl⟩

theorem radd_no (a b : Int) (w : World) (ha : I64 a) (hb : I64 b) (hs : ¬ I64 (a + b)) :
    Calls Try.prog 16 #[.int .i64 a, .int .i64 b] w fun e w' => e = .returned (.tuple #[.int .i64 0, .bool false]) ∧ w = w' := by
  unfold I64 at ha hb hs
  obtain ⟨ha1, ha2⟩ := ha
  obtain ⟨hb1, hb2⟩ := hb
  by_cases h : b < 0
  · have h1 : a < -9223372036854775808 - b := by omega
    clear hs
    go_enter Try.func16, Try.ntmps16
    go_wp2
    all_goals
      go_ret2
      exact ⟨rfl, rfl⟩
  · have h1 : 9223372036854775807 - b < a := by omega
    have h2 : 0 < b := by omega
    clear hs
    go_enter Try.func16, Try.ntmps16
    go_wp2
    all_goals
      go_ret2
      exact ⟨rfl, rfl⟩

theorem gcd_step (x y : Int) : Int.gcd y (x.tmod y) = Int.gcd x y := by
  unfold Int.gcd
  rw [Int.natAbs_tmod, Nat.gcd_comm, ← Nat.gcd_rec, Nat.gcd_comm]

theorem tmod_lt (x y : Int) (h : y ≠ 0) : (x.tmod y).natAbs < y.natAbs := by
  rw [Int.natAbs_tmod]; exact Nat.mod_lt _ (by omega)

theorem ret_int {k : IntKind} {a b : Int} (h : a = b) : Ending.returned (.int k a) = .returned (.int k b) := by rw [h]

theorem drewN_of (w wr w' : World) (n m : Nat) (h1 : wr = w.drewN n) (h2 : w' = wr.drewN m) : ∃ k, w' = w.drewN k := by
  subst h1 h2
  exact ⟨n + m, by simp [World.drewN, Nat.add_assoc]⟩

theorem gcd_any (a b : Int) (w : World) (ha : -9223372036854775807 ≤ a ∧ a ≤ 9223372036854775807) (hb : -9223372036854775807 ≤ b ∧ b ≤ 9223372036854775807) :
    Calls Try.prog 21 #[.int .i64 a, .int .i64 b] w fun e w' => e = .returned (.int .i64 (Int.gcd a b)) ∧ ∃ n, w' = w.drewN n := by
  go_enter Try.func21, Try.ntmps21
  go_wp2
  go_loopw [0, 1] (fun s t wr => ∃ x y : Int, s = .int .i64 x ∧ t = .int .i64 y ∧ -9223372036854775807 ≤ x ∧ x ≤ 9223372036854775807 ∧ -9223372036854775807 ≤ y ∧ y ≤ 9223372036854775807 ∧ Hid (Int.gcd x y = Int.gcd a b) ∧ Hid (∃ n, wr = w.drewN n))
    (fun _ t _ => (intOf t).natAbs)
  case atStart => exact ⟨a, b, rfl, rfl, ha.1, ha.2, hb.1, hb.2, Lib.hid rfl, Lib.hid ⟨0, rfl⟩⟩
  case round =>
    obtain ⟨x, y, rfl, rfl, hx1, hx2, hy1, hy2, hg, hw⟩ := hrel
    by_cases h0 : y = 0
    · subst h0
      go_wp2
      · go_ret
        exact ⟨ret_int (by rw [← hg.out]; simp; omega), hw.out⟩
      · go_ret
        exact ⟨ret_int (by rw [← hg.out]; simp; omega), hw.out⟩
    · have hne : (y != 0) = true := by simpa using h0
      have hl := tmod_lt x y h0
      have hg' := Lib.hid ((gcd_step x y).trans hg.out)
      go_wp2
      go_quiet (fail)
      go_wp2
      go_roundw
      case rel => exact ⟨y, x.tmod y, rfl, rfl, hy1, hy2, by omega, by omega, hg', Lib.hid (by obtain ⟨n, hn⟩ := hw.out; exact drewN_of _ _ _ _ _ hn rfl)⟩
      case measure => simp only [intOf]; omega

theorem rgcd_any (a b : Int) (w : World) (ha : -9223372036854775807 ≤ a ∧ a ≤ 9223372036854775807) (hb : -9223372036854775807 ≤ b ∧ b ≤ 9223372036854775807) :
    Calls Try.prog 22 #[.int .i64 a, .int .i64 b] w fun e w' => e = .returned (.int .i64 (Int.gcd a b)) ∧ w = w' := by
  obtain ⟨ha1, ha2⟩ := ha
  obtain ⟨hb1, hb2⟩ := hb
  go_enter Try.func22, Try.ntmps22
  go_wp2
  all_goals
    go_loop [0, 1] (fun s t => ∃ x y : Int, s = .int .i64 x ∧ t = .int .i64 y ∧ 0 ≤ x ∧ x ≤ 9223372036854775807 ∧ 0 ≤ y ∧ y ≤ 9223372036854775807 ∧ Hid (Int.gcd x y = Int.gcd a b))
      (fun _ t => (intOf t).natAbs)
    case atStart => exact ⟨_, _, rfl, rfl, by omega, by omega, by omega, by omega, Lib.hid (by simp [Int.gcd, Int.natAbs_neg])⟩
    case round =>
      obtain ⟨x, y, rfl, rfl, hx1, hx2, hy1, hy2, hg⟩ := hrel
      by_cases h0 : y = 0
      · subst h0
        go_wp2
        go_ret
        exact ⟨ret_int (by rw [← hg.out]; simp; omega), rfl⟩
      · have hne : (y != 0) = true := by simpa using h0
        have hl := tmod_lt x y h0
        have hm : x.tmod y = x % y := Int.tmod_eq_emod_of_nonneg hx1
        have hg' := Lib.hid ((gcd_step x y).trans hg.out)
        rw [hm] at hg' hl
        clear hm
        have hnn := Int.emod_nonneg x h0
        go_wp2
        go_round
        case rel => exact ⟨y, x % y, rfl, rfl, by omega, by omega, by omega, by omega, hg'⟩
        case measure => simp only [intOf]; omega

end Go.Proofs.Ytgombejncjcjhaa
