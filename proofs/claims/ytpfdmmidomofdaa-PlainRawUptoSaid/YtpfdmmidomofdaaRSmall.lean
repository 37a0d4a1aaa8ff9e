/-
  What the document's own small functions of bytes come to.
  Conditions: none beyond each theorem's own.
-/
import Derived.Test.YtpfdmmidomofdaaBase4
namespace Go.Proofs.Ytpfdmmidomofdaa
open Go.RowKit
set_option linter.unusedVariables false

theorem rsmall_any (c : Int) (w : World) : Calls Try.prog 88 #[.int .u8 c] w fun e w' => e = .returned (.bool (smallI c)) ∧ w = w' := by
  have H : Hid (smallI c = decide (97 ≤ c ∧ c ≤ 122)) := Lib.hid rfl
  by_cases h1 : 97 ≤ c
  · by_cases h2 : c ≤ 122
    · go_enter Try.func88, Try.ntmps88
      go_wp2
      go_ret
      exact ⟨ret_bool (a := true) (by rw [H.out, decide_eq_true ⟨h1, h2⟩]), rfl⟩
    · have h2b : decide (c ≤ 122) = false := by simpa using h2
      go_enter Try.func88, Try.ntmps88
      go_wp2
      go_ret
      exact ⟨ret_bool (a := false) (by rw [H.out, decide_eq_false (fun h => by omega)]), rfl⟩
  · have h1b : decide (97 ≤ c) = false := by simpa using h1
    go_enter Try.func88, Try.ntmps88
    go_wp2
    go_ret
    exact ⟨ret_bool (a := false) (by rw [H.out, decide_eq_false (fun h => by omega)]), rfl⟩

theorem rdigit_any (c : Int) (w : World) : Calls Try.prog 89 #[.int .u8 c] w fun e w' => e = .returned (.bool (digitI c)) ∧ w = w' := by
  have H : Hid (digitI c = decide (48 ≤ c ∧ c ≤ 57)) := Lib.hid rfl
  by_cases h1 : 48 ≤ c
  · by_cases h2 : c ≤ 57
    · go_enter Try.func89, Try.ntmps89
      go_wp2
      go_ret
      exact ⟨ret_bool (a := true) (by rw [H.out, decide_eq_true ⟨h1, h2⟩]), rfl⟩
    · have h2b : decide (c ≤ 57) = false := by simpa using h2
      go_enter Try.func89, Try.ntmps89
      go_wp2
      go_ret
      exact ⟨ret_bool (a := false) (by rw [H.out, decide_eq_false (fun h => by omega)]), rfl⟩
  · have h1b : decide (48 ≤ c) = false := by simpa using h1
    go_enter Try.func89, Try.ntmps89
    go_wp2
    go_ret
    exact ⟨ret_bool (a := false) (by rw [H.out, decide_eq_false (fun h => by omega)]), rfl⟩

end Go.Proofs.Ytpfdmmidomofdaa
