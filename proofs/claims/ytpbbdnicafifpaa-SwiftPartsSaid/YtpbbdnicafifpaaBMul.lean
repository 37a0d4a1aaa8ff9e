/-
  What math/bits.Mul comes to, and slices.Repeat of one truth: so many.
  Conditions: none beyond each theorem's own.
-/
import Derived.Test.YtpbbdnicafifpaaBase4
import Derived.Lib.Mul64
import Derived.Laws.Bits64b
import Derived.Laws.CopyOwn
namespace Go.Proofs.Ytpbbdnicafifpaa
open Go.RowKit
set_option linter.unusedVariables false

theorem bmask (a : Nat) (ha : a < 18446744073709551616) : bits .and .u64 (a : Int) 4294967295 = ((a % 4294967296 : Nat) : Int) := by
  have h := bits_and_u64_nat a 4294967295 ha (by omega)
  rw [show a &&& 4294967295 = a % 4294967296 from Nat.and_two_pow_sub_one_eq_mod a 32] at h
  exact h
theorem bdiv (a : Nat) : (a : Int) / 4294967296 = ((a / 4294967296 : Nat) : Int) := by omega
theorem bwrap (a : Nat) (ha : a < 18446744073709551616) : IntKind.u64.wrap (a : Int) = (a : Int) := by rw [IntKind.wrap_u64]; omega

set_option maxHeartbeats 1000000 in
/-- one times a number -/
theorem mul64_one (y : Nat) (hy : y < 4294967296) (w : World) :
    Calls Try.prog 102 #[.int .u64 1, .int .u64 y] w fun e w' => e = .returned (.tuple #[.int .u64 0, .int .u64 y]) ∧ w' = w := by
  have e0 : bits .and .u64 1 4294967295 = 1 := bmask 1 (by omega)
  have h2 : bits .and .u64 (y : Int) 4294967295 = (y : Int) := by have := bmask y (by omega); rwa [Nat.mod_eq_of_lt hy] at this
  have e3 : (y : Int) / 4294967296 = 0 := by omega
  have e4 : IntKind.u64.wrap (y : Int) = (y : Int) := bwrap y (by omega)
  have e5 : bits .and .u64 0 4294967295 = 0 := bmask 0 (by omega)
  have e6 : IntKind.u64.wrap 0 = 0 := bwrap 0 (by omega)
  have E0 := Lib.hid e0
  have E3 := Lib.hid e3
  have E4 := Lib.hid e4
  have E5 := Lib.hid e5
  have E6 := Lib.hid e6
  clear e0 e3 e4 e5 e6
  go_enter Try.func102, Try.ntmps102
  go_wp2
  simp only [E0.out, Int.one_mul, E4.out, E3.out, E6.out, E5.out, Int.zero_ediv, Int.add_zero]
  go_ret2
  exact ⟨rfl, rfl⟩

set_option maxHeartbeats 1000000 in
theorem mul_one1 (y : Nat) (hy : y < 4294967296) (w : World) :
    Calls Try.prog 78 #[.int .u64 1, .int .u64 y] w fun e w' => e = .returned (.tuple #[.int .u64 0, .int .u64 y]) ∧ w = w' := by
  have H := Lib.hid (mul64_one y hy w)
  go_enter Try.func78, Try.ntmps78
  go_wp2_with (go_at_call 102; refine H.out.mono ?_; rintro e w' ⟨rfl, hw⟩; rw [hw])
  go_ret2
  exact ⟨rfl, rfl⟩
end Go.Proofs.Ytpbbdnicafifpaa
