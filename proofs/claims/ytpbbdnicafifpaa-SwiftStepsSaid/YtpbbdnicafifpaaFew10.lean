/-
  The laws of layer 10: is a draft one of few?
  Conditions: none beyond each theorem's own.
-/
import Derived.Test.YtpbbdnicafifpaaInBx
namespace Go.Proofs.Ytpbbdnicafifpaa
open Go.RowKit
set_option linter.unusedVariables false

set_option maxRecDepth 100000 in
set_option maxHeartbeats 1000000 in
theorem few10_any {w : World} {aT aA : Option Addr} {cT cA nT nA : Nat} (q : Bool) (hq : q = (decide (nT ≤ 60) && decide (nA ≤ 12))) :
    Calls Try.prog 28 #[.agg #[.slice aT nT cT, .slice aA nA cA]] w fun e w' => e = .returned (.bool q) ∧ Below w.heap.size w w' := by
  have Hb := Lib.hid ((Below.refl w.heap.size w).alloc (Nat.le_refl _) (.cells #[.slice aT nT cT, .slice aA nA cA] 25))
  by_cases h1 : nT ≤ 60
  · have h1i : (nT : Int) ≤ 60 := by omega
    by_cases h2 : nA ≤ 12
    · have h2i : (nA : Int) ≤ 12 := by omega
      obtain rfl : q = true := by rw [hq]; simp [h1, h2]
      clear hq
      go_enter Try.func28, Try.ntmps28
      go_wp2
      go_ret
      exact ⟨rfl, Hb.out⟩
    · have h2i : ¬ (nA : Int) ≤ 12 := by omega
      obtain rfl : q = false := by rw [hq]; simp [h2]
      clear hq
      go_enter Try.func28, Try.ntmps28
      go_wp2
      go_ret
      exact ⟨rfl, Hb.out⟩
  · have h1i : ¬ (nT : Int) ≤ 60 := by omega
    obtain rfl : q = false := by rw [hq]; simp [h1]
    clear hq
    go_enter Try.func28, Try.ntmps28
    go_wp2
    go_ret
    exact ⟨rfl, Hb.out⟩

end Go.Proofs.Ytpbbdnicafifpaa
