/-
  The document's example of knit: it is so.
  Conditions: none.
-/
import Derived.Test.YthpcaamfcmjnmaaGroups
namespace Go.Proofs.Ythpcaamfcmjnmaa
open Go.RowKit
set_option linter.unusedVariables false

theorem roots_id (m : Nat) : roots (fun c => c) m = List.range m := by unfold roots; rw [List.filter_eq_self]; intro c _; simp
theorem groups_id_len (m : Nat) : (groupsOf (fun c => c) m).length = m := by rw [groups_len, roots_id]; simp

/-- what Knit calls change lies at or above the base -/
theorem KnitAt.belowB {B : Nat} {w w' : World} {g b m : Nat} {rho : Nat → Nat} (h : KnitAt B w g b m rho) (hk : Kept (fun k => k = b) w w') : Below B w w' :=
  hk.below (fun k e => by have := h.bB; omega) (by have := h.bB; have := h.blt; omega)

set_option maxRecDepth 100000 in
set_option maxHeartbeats 1000000 in
theorem awake3 (w : World) : Calls Try.prog 15 #[] w fun e w' => e = .returned (.bool true) ∧ Below w.heap.size w w' := by
  go_enter Try.func15, Try.ntmps15
  go_wp2_with fail
  refine (new_any 3 (by omega) w).mono ?_
  rintro e w1 ⟨rfl, h1, b1⟩
  go_wp2_with fail
  refine (join_in 0 2 h1 (by omega) (by omega)).mono ?_
  rintro e w2 ⟨rfl, h2, k2⟩
  have b2 := b1.trans (h1.belowB k2)
  clear h1 k2 b1
  rw [show decide ((fun c : Nat => c) 0 ≠ (fun c : Nat => c) 2) = true by decide]
  go_wp2_with fail
  refine (same_in 2 0 h2 (by omega) (by omega)).mono ?_
  rintro e w3 ⟨rfl, h3, k3⟩
  have b3 := b2.trans (h2.belowB k3)
  clear h2 k3 b2
  rw [show decide (joined (fun c : Nat => c) 0 2 2 = joined (fun c : Nat => c) 0 2 0) = true by decide]
  go_wp2_with fail
  refine (find_in 2 h3 (by omega)).mono ?_
  rintro e w4 ⟨rfl, h4, k4⟩
  have b4 := b3.trans (h3.belowB k4)
  clear h3 k4 b3
  rw [show joined (fun c : Nat => c) 0 2 2 = 0 by decide]
  go_wp2_with fail
  refine (groups_any w4 h4).mono ?_
  rintro e w5 ⟨v, vs, rfl, hR, h5, k5⟩
  have b5 := b4.trans (h4.belowB k5)
  rw [show groupsOf (joined (fun c : Nat => c) 0 2) 3 = [[0, 2], [1]] by decide] at hR
  obtain ⟨a, cap, rfl⟩ := hR.form
  clear h4 k5 b4 hR h5
  go_wp2
  go_ret
  exact ⟨rfl, b5⟩

end Go.Proofs.Ythpcaamfcmjnmaa
