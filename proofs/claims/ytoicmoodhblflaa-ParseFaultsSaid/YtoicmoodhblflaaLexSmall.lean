/-
  What the small functions of lex, and of the document's own lexer, come to: letters, digits, what may stand in a word.
  Conditions: none.
-/
import Derived.Test.YtoicmoodhblflaaBytes
namespace Go.Proofs.Ytoicmoodhblflaa
open Go.RowKit
set_option linter.unusedVariables false

theorem ret_bool {a b : Bool} (h : a = b) : Ending.returned (.bool a) = .returned (.bool b) := by rw [h]

theorem letter_any (c : Int) (w : World) : Calls Try.prog 70 #[.int .i32 c] w fun e w' => e = .returned (.bool (smallI c)) ∧ w = w' := by
  have H : Hid (smallI c = decide (97 ≤ c ∧ c ≤ 122)) := Lib.hid rfl
  by_cases h1 : 97 ≤ c
  · by_cases h2 : c ≤ 122
    · go_enter Try.func70, Try.ntmps70
      go_wp2
      go_ret
      exact ⟨ret_bool (a := true) (by rw [H.out, decide_eq_true ⟨h1, h2⟩]), rfl⟩
    · have h2b : decide (c ≤ 122) = false := by simpa using h2
      go_enter Try.func70, Try.ntmps70
      go_wp2
      go_ret
      exact ⟨ret_bool (a := false) (by rw [H.out, decide_eq_false (fun h => by omega)]), rfl⟩
  · have h1b : decide (97 ≤ c) = false := by simpa using h1
    go_enter Try.func70, Try.ntmps70
    go_wp2
    go_ret
    exact ⟨ret_bool (a := false) (by rw [H.out, decide_eq_false (fun h => by omega)]), rfl⟩

theorem digit_any (c : Int) (w : World) : Calls Try.prog 77 #[.int .i32 c] w fun e w' => e = .returned (.bool (digitI c)) ∧ w = w' := by
  have H : Hid (digitI c = decide (48 ≤ c ∧ c ≤ 57)) := Lib.hid rfl
  by_cases h1 : 48 ≤ c
  · by_cases h2 : c ≤ 57
    · go_enter Try.func77, Try.ntmps77
      go_wp2
      go_ret
      exact ⟨ret_bool (a := true) (by rw [H.out, decide_eq_true ⟨h1, h2⟩]), rfl⟩
    · have h2b : decide (c ≤ 57) = false := by simpa using h2
      go_enter Try.func77, Try.ntmps77
      go_wp2
      go_ret
      exact ⟨ret_bool (a := false) (by rw [H.out, decide_eq_false (fun h => by omega)]), rfl⟩
  · have h1b : decide (48 ≤ c) = false := by simpa using h1
    go_enter Try.func77, Try.ntmps77
    go_wp2
    go_ret
    exact ⟨ret_bool (a := false) (by rw [H.out, decide_eq_false (fun h => by omega)]), rfl⟩

theorem rsmall_any (c : Int) (w : World) : Calls Try.prog 73 #[.int .u8 c] w fun e w' => e = .returned (.bool (smallI c)) ∧ w = w' := by
  have H : Hid (smallI c = decide (97 ≤ c ∧ c ≤ 122)) := Lib.hid rfl
  by_cases h1 : 97 ≤ c
  · by_cases h2 : c ≤ 122
    · go_enter Try.func73, Try.ntmps73
      go_wp2
      go_ret
      exact ⟨ret_bool (a := true) (by rw [H.out, decide_eq_true ⟨h1, h2⟩]), rfl⟩
    · have h2b : decide (c ≤ 122) = false := by simpa using h2
      go_enter Try.func73, Try.ntmps73
      go_wp2
      go_ret
      exact ⟨ret_bool (a := false) (by rw [H.out, decide_eq_false (fun h => by omega)]), rfl⟩
  · have h1b : decide (97 ≤ c) = false := by simpa using h1
    go_enter Try.func73, Try.ntmps73
    go_wp2
    go_ret
    exact ⟨ret_bool (a := false) (by rw [H.out, decide_eq_false (fun h => by omega)]), rfl⟩

theorem rdigit_any (c : Int) (w : World) : Calls Try.prog 74 #[.int .u8 c] w fun e w' => e = .returned (.bool (digitI c)) ∧ w = w' := by
  have H : Hid (digitI c = decide (48 ≤ c ∧ c ≤ 57)) := Lib.hid rfl
  by_cases h1 : 48 ≤ c
  · by_cases h2 : c ≤ 57
    · go_enter Try.func74, Try.ntmps74
      go_wp2
      go_ret
      exact ⟨ret_bool (a := true) (by rw [H.out, decide_eq_true ⟨h1, h2⟩]), rfl⟩
    · have h2b : decide (c ≤ 57) = false := by simpa using h2
      go_enter Try.func74, Try.ntmps74
      go_wp2
      go_ret
      exact ⟨ret_bool (a := false) (by rw [H.out, decide_eq_false (fun h => by omega)]), rfl⟩
  · have h1b : decide (48 ≤ c) = false := by simpa using h1
    go_enter Try.func74, Try.ntmps74
    go_wp2
    go_ret
    exact ⟨ret_bool (a := false) (by rw [H.out, decide_eq_false (fun h => by omega)]), rfl⟩

theorem inWord_any (c : Int) (w : World) : Calls Try.prog 69 #[.int .i32 c] w fun e w' => e = .returned (.bool (wordyI c)) ∧ w = w' := by
  have H : Hid (wordyI c = (smallI c || digitI c || decide (c = 46))) := Lib.hid rfl
  cases h1 : smallI c with
  | true =>
    go_enter Try.func69, Try.ntmps69
    go_wp2_with (first | (go_at_call 70; refine (letter_any _ _).mono ?_; rintro e w' ⟨rfl, rfl⟩) | (go_at_call 77; refine (digit_any _ _).mono ?_; rintro e w' ⟨rfl, rfl⟩))
    go_ret
    exact ⟨ret_bool (a := true) (by rw [H.out, h1]; rfl), rfl⟩
  | false =>
    cases h2 : digitI c with
    | true =>
      go_enter Try.func69, Try.ntmps69
      go_wp2_with (first | (go_at_call 70; refine (letter_any _ _).mono ?_; rintro e w' ⟨rfl, rfl⟩) | (go_at_call 77; refine (digit_any _ _).mono ?_; rintro e w' ⟨rfl, rfl⟩))
      go_ret
      exact ⟨ret_bool (a := true) (by rw [H.out, h1, h2]; rfl), rfl⟩
    | false =>
      by_cases h3 : c = 46
      · subst h3
        go_enter Try.func69, Try.ntmps69
        go_wp2_with (first | (go_at_call 70; refine (letter_any _ _).mono ?_; rintro e w' ⟨rfl, rfl⟩) | (go_at_call 77; refine (digit_any _ _).mono ?_; rintro e w' ⟨rfl, rfl⟩))
        go_ret
        exact ⟨ret_bool (a := true) (by rw [H.out, h1, h2]; rfl), rfl⟩
      · have h3b : (c == 46) = false := by simpa using h3
        go_enter Try.func69, Try.ntmps69
        go_wp2_with (first | (go_at_call 70; refine (letter_any _ _).mono ?_; rintro e w' ⟨rfl, rfl⟩) | (go_at_call 77; refine (digit_any _ _).mono ?_; rintro e w' ⟨rfl, rfl⟩))
        go_ret
        exact ⟨ret_bool (a := false) (by rw [H.out, h1, h2, decide_eq_false h3]; rfl), rfl⟩

end Go.Proofs.Ytoicmoodhblflaa
