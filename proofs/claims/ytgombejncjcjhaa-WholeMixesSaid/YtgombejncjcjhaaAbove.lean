/-
  The law's helper 'above' gives a number above the least int; plain facts on the greatest number that divides two.
  Conditions: the argument is an int.
-/
import Derived.Test.YtgombejncjcjhaaArith
namespace Go.Proofs.Ytgombejncjcjhaa
open Go.RowKit

/-- a number above the least int -/
def abv (n : Int) : Int := if n = -9223372036854775808 then -9223372036854775807 else n

theorem abv_bd (n : Int) (h : I64 n) : -9223372036854775807 ≤ abv n ∧ abv n ≤ 9223372036854775807 := by
  unfold I64 at h; unfold abv; split <;> omega

theorem above_any (n : Int) (w : World) : Calls Try.prog 20 #[.int .i64 n] w fun e w' => e = .returned (.int .i64 (abv n)) ∧ w = w' := by
  by_cases h : n = -9223372036854775808
  · subst h
    go_enter Try.func20, Try.ntmps20
    go_wp2
    go_ret
    exact ⟨rfl, rfl⟩
  · have e : abv n = n := by unfold abv; rw [if_neg h]
    rw [e]
    clear e
    go_enter Try.func20, Try.ntmps20
    go_wp2
    go_ret
    exact ⟨rfl, rfl⟩

theorem gcd_parts (x y : Int) (hx : -9223372036854775807 ≤ x ∧ x ≤ 9223372036854775807) (hy : -9223372036854775807 ≤ y ∧ y ≤ 9223372036854775807) (h0 : ¬ (x = 0 ∧ y = 0)) :
    ∃ G A B : Int, (Int.gcd x y : Int) = G ∧ 1 ≤ G ∧ G ≤ 9223372036854775807 ∧ x.tdiv G = A ∧ y.tdiv G = B ∧ x.tmod G = 0 ∧ y.tmod G = 0 ∧ -9223372036854775807 ≤ A ∧ A ≤ 9223372036854775807 ∧ -9223372036854775807 ≤ B ∧ B ≤ 9223372036854775807 ∧
      ∀ k : Int, 2 ≤ k → ¬ (A.tmod k = 0 ∧ B.tmod k = 0) := by
  have hg : 0 < Int.gcd x y := by
    rcases Nat.eq_zero_or_pos (Int.gcd x y) with h | h
    · exact absurd (Int.gcd_eq_zero_iff.1 h) h0
    · exact h
  have d1 : (Int.gcd x y : Int) ∣ x := Int.gcd_dvd_left _ _
  have d2 : (Int.gcd x y : Int) ∣ y := Int.gcd_dvd_right _ _
  have hle : Int.gcd x y ≤ 9223372036854775807 := by
    by_cases hx0 : x = 0
    · have hy0 : y ≠ 0 := fun h => h0 ⟨hx0, h⟩
      have := Int.gcd_le_natAbs_right x hy0
      omega
    · have := Int.gcd_le_natAbs_left y hx0
      omega
  have bd : ∀ z g : Int, -9223372036854775807 ≤ z ∧ z ≤ 9223372036854775807 → -9223372036854775807 ≤ z.tdiv g ∧ z.tdiv g ≤ 9223372036854775807 := by
    intro z g hz
    have : (z.tdiv g).natAbs ≤ z.natAbs := by rw [Int.natAbs_tdiv]; exact Nat.div_le_self _ _
    omega
  refine ⟨_, _, _, rfl, by omega, by omega, rfl, rfl, Int.tmod_eq_zero_of_dvd d1, Int.tmod_eq_zero_of_dvd d2, (bd x _ hx).1, (bd x _ hx).2, (bd y _ hy).1, (bd y _ hy).2, ?_⟩
  intro k hk ⟨h1, h2⟩
  have e1 : (Int.gcd x y : Int) * x.tdiv (Int.gcd x y) = x := Int.mul_tdiv_cancel' d1
  have e2 : (Int.gcd x y : Int) * y.tdiv (Int.gcd x y) = y := Int.mul_tdiv_cancel' d2
  have k1 : k ∣ x.tdiv (Int.gcd x y) := Int.dvd_of_tmod_eq_zero h1
  have k2 : k ∣ y.tdiv (Int.gcd x y) := Int.dvd_of_tmod_eq_zero h2
  have m1 : (Int.gcd x y : Int) * k ∣ x := by conv => rhs; rw [← e1]
                                              exact Int.mul_dvd_mul_left _ k1
  have m2 : (Int.gcd x y : Int) * k ∣ y := by conv => rhs; rw [← e2]
                                              exact Int.mul_dvd_mul_left _ k2
  have m3 := Int.dvd_coe_gcd m1 m2
  have hle := Int.le_of_dvd (by omega) m3
  have h3 : (Int.gcd x y : Int) * 2 ≤ (Int.gcd x y : Int) * k := Int.mul_le_mul_of_nonneg_left hk (by omega)
  omega

theorem kth (c : Int) : ∃ k : Int, wrap64 (2 + wrap64 ((IntKind.u64.wrap c).tmod 1000)) = k ∧ 2 ≤ k ∧ k ≤ 1001 := by
  have h0 : 0 ≤ IntKind.u64.wrap c := by simp [IntKind.wrap, IntKind.signed, IntKind.bits]; omega
  rw [Int.tmod_eq_emod_of_nonneg h0]
  refine ⟨_, rfl, ?_, ?_⟩ <;> unfold wrap64 <;> omega

end Go.Proofs.Ytgombejncjcjhaa
