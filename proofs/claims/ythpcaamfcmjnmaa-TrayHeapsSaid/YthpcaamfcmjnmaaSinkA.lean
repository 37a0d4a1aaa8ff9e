/-
  The two children of a place in a heap, as an array.
  Conditions: the place is between 0 and 1000000.
-/
import Derived.Test.YthpcaamfcmjnmaaRise
namespace Go.Proofs.Ythpcaamfcmjnmaa
open Go.RowKit

theorem children_any (i c1 c2 : Nat) (w : World) (h1 : c1 = 2 * i + 1) (h2 : c2 = 2 * i + 2) (hi : i ≤ 1000000) :
    Calls Try.prog 29 #[.int .i64 i] w fun e w' => e = .returned (.agg #[.int .i64 c1, .int .i64 c2]) ∧ Below w.heap.size w w' := by
  have e1 : (2 : Int) * (i : Int) + 1 = (c1 : Int) := by omega
  have e2 : (2 : Int) * (i : Int) + 2 = (c2 : Int) := by omega
  clear h1 h2
  have hi1 : (i : Int) ≤ 1000000 := by omega
  go_enter Try.func29, Try.ntmps29
  go_wp2
  refine bodyPost_ret (v := .agg #[.int .i64 c1, .int .i64 c2]) (by simp [results, Try.results29, go_sem]) rfl ⟨rfl, ?_⟩
  exact ((Below.refl _ _).alloc (Nat.le_refl _) _)

end Go.Proofs.Ythpcaamfcmjnmaa
