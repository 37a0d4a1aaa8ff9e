/-
  What Mul of package whole and the document's own Mul come to for all ints.
  Conditions: each argument is an int.
-/
import Derived.Test.YtgombejncjcjhaaArith
namespace Go.Proofs.Ytgombejncjcjhaa
open Go.RowKit

theorem mul_abs_lt {r b : Int} (h : r.natAbs < b.natAbs) (hb : I64 b) : -9223372036854775808 < r ∧ r < 9223372036854775808 := by
  unfold I64 at hb; omega

theorem quo_back (a b : Int) (hb0 : b ≠ 0) : (a * b).tdiv b = a := Int.mul_tdiv_cancel a hb0

theorem quo_off (a b : Int) (hb0 : b ≠ 0) (hb : I64 b) (hs : ¬ I64 (a * b)) : (wrap64 (a * b)).tdiv b ≠ a := by
  intro h
  have h1 := Int.mul_tdiv_add_tmod (wrap64 (a * b)) b
  rw [h] at h1
  have h2 := tmod_lt (wrap64 (a * b)) b hb0
  have h3 := mul_abs_lt h2 hb
  have h4 : b * a = a * b := Int.mul_comm _ _
  rw [h4] at h1
  unfold I64 at hs
  unfold wrap64 at h1 h3
  generalize a * b = p at *
  omega

theorem wrap_id (n : Int) (h : I64 n) : wrap64 n = n := by
  unfold I64 at h; unfold wrap64; omega

theorem wrap_range (n : Int) : I64 (wrap64 n) := by
  unfold I64 wrap64; omega

theorem quo_is (a b : Int) (hb0 : b ≠ 0) (ha : I64 a) (hs : I64 (a * b)) : (wrap64 ((wrap64 (a * b)).tdiv b) != a) = false := by
  rw [wrap_id _ hs, quo_back a b hb0, wrap_id _ ha]; simp

theorem quo_isnt (a b : Int) (hb0 : b ≠ 0) (ha : I64 a) (hb : I64 b) (hm : ¬ (a = -9223372036854775808 ∧ b = -1)) (hs : ¬ I64 (a * b)) : (wrap64 ((wrap64 (a * b)).tdiv b) != a) = true := by
  have hq := quo_off a b hb0 hb hs
  have h1 : b ≠ 1 := by rintro rfl; rw [Int.mul_one] at hs; exact hs ha
  have h2 : b ≠ -1 := by
    rintro rfl
    unfold I64 at ha hs; omega
  have h3 : I64 ((wrap64 (a * b)).tdiv b) := by
    have hr := wrap_range (a * b)
    have hn : ((wrap64 (a * b)).tdiv b).natAbs ≤ (wrap64 (a * b)).natAbs := by
      rw [Int.natAbs_tdiv]; exact Nat.div_le_self _ _
    have hn2 : ((wrap64 (a * b)).tdiv b).natAbs ≤ (wrap64 (a * b)).natAbs / 2 := by
      rw [Int.natAbs_tdiv]; exact Nat.div_le_div_left (by omega) (by omega)
    unfold I64 at hr ⊢
    generalize wrap64 (a * b) = p at *
    omega
  rw [wrap_id _ h3]
  simpa using hq

set_option maxRecDepth 10000 in
theorem mul_ok (a b : Int) (w : World) (ha : I64 a) (hb : I64 b) (hs : I64 (a * b)) :
    Calls Try.prog 18 #[.int .i64 a, .int .i64 b] w fun e w' => e = .returned (.tuple #[.int .i64 (a * b), .bool true]) ∧ w = w' := by
  by_cases h0 : b = 0
  · subst h0
    rw [Int.mul_zero]
    go_enter Try.func18, Try.ntmps18
    go_wp2
    go_ret2
    exact ⟨rfl, rfl⟩
  · have hq := quo_is a b h0 ha hs
    unfold I64 at ha hb hs
    obtain ⟨ha1, ha2⟩ := ha
    obtain ⟨hb1, hb2⟩ := hb
    obtain ⟨hs1, hs2⟩ := hs
    by_cases hm : a = -9223372036854775808
    · subst hm
      have hb3 : b ≠ -1 := by rintro rfl; omega
      go_enter Try.func18, Try.ntmps18
      go_wp2
      go_ret2
      exact ⟨rfl, rfl⟩
    · go_enter Try.func18, Try.ntmps18
      go_wp2
      go_ret2
      exact ⟨rfl, rfl⟩

theorem mul_no (a b : Int) (w : World) (ha : I64 a) (hb : I64 b) (hs : ¬ I64 (a * b)) :
    Calls Try.prog 18 #[.int .i64 a, .int .i64 b] w fun e w' => e = .returned (.tuple #[.int .i64 0, .bool false]) ∧ w = w' := by
  have h0 : b ≠ 0 := by rintro rfl; simp [I64] at hs
  by_cases hm : a = -9223372036854775808
  · by_cases hb1 : b = -1
    · subst hm hb1
      clear hs
      go_enter Try.func18, Try.ntmps18
      go_wp2
      go_ret2
      exact ⟨rfl, rfl⟩
    · have hq := quo_isnt a b h0 ha hb (by omega) hs
      subst hm
      clear hs
      go_enter Try.func18, Try.ntmps18
      go_wp2
      go_ret2
      exact ⟨rfl, rfl⟩
  · have hq := quo_isnt a b h0 ha hb (by omega) hs
    clear hs
    go_enter Try.func18, Try.ntmps18
    go_wp2
    go_ret2
    exact ⟨rfl, rfl⟩

theorem rmul_zero (a b : Int) (w : World) (h : a = 0 ∨ b = 0) :
    Calls Try.prog 19 #[.int .i64 a, .int .i64 b] w fun e w' => e = .returned (.tuple #[.int .i64 0, .bool true]) ∧ w = w' := by
  by_cases h1 : a = 0
  · subst h1
    go_enter Try.func19, Try.ntmps19
    go_wp2
    go_ret2
    exact ⟨rfl, rfl⟩
  · have h2 : b = 0 := by omega
    subst h2
    go_enter Try.func19, Try.ntmps19
    go_wp2
    go_ret2
    exact ⟨rfl, rfl⟩

theorem rmul_least (a b : Int) (w : World) (ha : a ≠ 0) (hb : b ≠ 0) (h : a = -9223372036854775808 ∨ b = -9223372036854775808) :
    Calls Try.prog 19 #[.int .i64 a, .int .i64 b] w fun e w' => e = .returned (if a = 1 ∨ b = 1 then .tuple #[.int .i64 (-9223372036854775808), .bool true] else .tuple #[.int .i64 0, .bool false]) ∧ w = w' := by
  by_cases h1 : a = -9223372036854775808
  · subst h1
    by_cases h2 : b = 1
    · subst h2
      go_enter Try.func19, Try.ntmps19
      go_wp2
      go_ret2
      exact ⟨rfl, rfl⟩
    · rw [if_neg (by omega)]
      go_enter Try.func19, Try.ntmps19
      go_wp2
      go_ret2
      exact ⟨rfl, rfl⟩
  · have h2 : b = -9223372036854775808 := by omega
    subst h2
    by_cases h3 : a = 1
    · subst h3
      go_enter Try.func19, Try.ntmps19
      go_wp2
      go_ret2
      exact ⟨rfl, rfl⟩
    · rw [if_neg (by omega)]
      go_enter Try.func19, Try.ntmps19
      go_wp2
      go_ret2
      exact ⟨rfl, rfl⟩

end Go.Proofs.Ytgombejncjcjhaa
