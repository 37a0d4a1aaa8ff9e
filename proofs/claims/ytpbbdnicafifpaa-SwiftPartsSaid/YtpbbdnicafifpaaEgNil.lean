/-
  An engine that is none: what its methods answer.
  Conditions: none.
-/
import Derived.Test.YtpbbdnicafifpaaEgP
namespace Go.Proofs.Ytpbbdnicafifpaa
open Go.RowKit
set_option linter.unusedVariables false

set_option maxRecDepth 100000 in
theorem enext_nil (w : World) : Calls Try.prog 36 #[.pointer none] w fun r w' => r = .returned (.int .i64 (-1)) ∧ Below w.heap.size w w' := by
  go_enter Try.func36, Try.ntmps36
  go_wp2
  go_ret
  exact ⟨rfl, Below.refl _ _⟩
set_option maxRecDepth 100000 in
theorem einstant_nil (w : World) (t : Int) : Calls Try.prog 34 #[.pointer none, .int .i64 t] w fun r w' => r = .returned (.int .i64 2) ∧ Below w.heap.size w w' := by
  go_enter Try.func34, Try.ntmps34
  go_wp2
  go_ret
  exact ⟨rfl, Below.refl _ _⟩
set_option maxRecDepth 100000 in
theorem etold_nil (w : World) : Calls Try.prog 37 #[.pointer none] w fun r w' => r = .returned (.slice none 0 0) ∧ Below w.heap.size w w' := by
  go_enter Try.func37, Try.ntmps37
  go_wp2
  go_ret
  exact ⟨rfl, Below.refl _ _⟩
set_option maxRecDepth 100000 in
theorem come_nil (w : World) (t p n : Int) : Calls Try.prog 38 #[.pointer none, .agg #[.int .i64 t, .int .i64 p, .int .i64 n]] w fun r w' => r = .returned (.tuple #[]) ∧ Below w.heap.size w w' := by
  have hb : Below w.heap.size w (w.alloc (.cells #[.int .i64 t, .int .i64 p, .int .i64 n] 74)) := (Below.refl _ _).alloc (Nat.le_refl _) _
  have Hb := Lib.hid hb
  clear hb
  go_enter Try.func38, Try.ntmps38
  go_wp2
  go_quiet (fail)
  go_wp2
  (try simp only [Exit.inBlock, Exit.then])
  refine bodyPost_ret (results_none rfl _ _ _) rfl ?_
  exact ⟨rfl, Hb.out.trans ((drewNb _ _).mono Hb.out.size)⟩
end Go.Proofs.Ytpbbdnicafifpaa
