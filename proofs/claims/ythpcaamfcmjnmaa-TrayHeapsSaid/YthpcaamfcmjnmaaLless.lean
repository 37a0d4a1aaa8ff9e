/-
  What the law's own less comes to for all keys.
  Conditions: none.
-/
import Derived.Test.YthpcaamfcmjnmaaKey
namespace Go.Proofs.Ythpcaamfcmjnmaa
open Go.RowKit

section
variable (a1 a2 a3 a4 b1 b2 b3 b4 : Int) (w : World)

theorem lless_any : Calls Try.prog 11 #[.agg #[.int .i64 a1, .int .i64 a2, .int .i64 a3, .int .i64 a4], .agg #[.int .i64 b1, .int .i64 b2, .int .i64 b3, .int .i64 b4]] w
    fun e w' => e = .returned (.bool (klt (a1, a2, a3, a4) (b1, b2, b3, b4))) ∧ Below w.heap.size w w' := by
  by_cases h1 : a1 = b1
  · subst h1
    by_cases h2 : a2 = b2
    · subst h2
      by_cases h3 : a3 = b3
      · subst h3
        have e : klt (a1, a2, a3, a4) (a1, a2, a3, b4) = decide (a4 < b4) := by simp [klt]
        rw [e]
        clear e
        go_enter Try.func11, Try.ntmps11
        go_wp2
        go_ret
        exact ⟨rfl, below_two _ _⟩
      · have e : klt (a1, a2, a3, a4) (a1, a2, b3, b4) = decide (a3 < b3) := by simp [klt, h3]
        rw [e]
        clear e
        go_enter Try.func11, Try.ntmps11
        go_wp2
        go_ret
        exact ⟨rfl, below_two _ _⟩
    · have e : klt (a1, a2, a3, a4) (a1, b2, b3, b4) = decide (a2 < b2) := by simp [klt, h2]
      rw [e]
      clear e
      go_enter Try.func11, Try.ntmps11
      go_wp2
      go_ret
      exact ⟨rfl, below_two _ _⟩
  · have e : klt (a1, a2, a3, a4) (b1, b2, b3, b4) = decide (a1 < b1) := by simp [klt, h1]
    rw [e]
    clear e
    go_enter Try.func11, Try.ntmps11
    go_wp2
    go_ret
    exact ⟨rfl, below_two _ _⟩

end

end Go.Proofs.Ythpcaamfcmjnmaa
