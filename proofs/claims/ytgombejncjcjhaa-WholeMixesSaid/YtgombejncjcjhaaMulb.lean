/-
  What the document's own Mul comes to for all ints.
  Conditions: each argument is an int.
-/
import Derived.Test.YtgombejncjcjhaaMul
namespace Go.Proofs.Ytgombejncjcjhaa
open Go.RowKit

theorem rmul_pp_ok (x y : Int) (w : World) (hx : 1 ≤ x) (hx2 : x ≤ 9223372036854775807) (hy : 1 ≤ y) (hy2 : y ≤ 9223372036854775807) (hq : x ≤ 9223372036854775807 / y) (hp1 : 1 ≤ x * y) (hp2 : x * y ≤ 9223372036854775807) :
    Calls Try.prog 19 #[.int .i64 x, .int .i64 y] w fun e w' => e = .returned (.tuple #[.int .i64 (x * y), .bool true]) ∧ w = w' := by
  have ea0 : (x == 0) = false := by simp; omega
  have eb0 : (y == 0) = false := by simp; omega
  have eam : (x == -9223372036854775808) = false := by rw [beq_eq_false_iff_ne]; omega
  have ebm : (y == -9223372036854775808) = false := by rw [beq_eq_false_iff_ne]; omega
  have da : decide (x < 0) = false := by simp; omega
  have db : decide (y < 0) = false := by simp; omega
  go_enter Try.func19, Try.ntmps19
  go_wp2
  all_goals
    go_ret2
    exact ⟨rfl, rfl⟩

theorem rmul_pp_no (x y : Int) (w : World) (hx : 1 ≤ x) (hx2 : x ≤ 9223372036854775807) (hy : 1 ≤ y) (hy2 : y ≤ 9223372036854775807) (hq : 9223372036854775807 / y < x) :
    Calls Try.prog 19 #[.int .i64 x, .int .i64 y] w fun e w' => e = .returned (.tuple #[.int .i64 0, .bool false]) ∧ w = w' := by
  have ea0 : (x == 0) = false := by simp; omega
  have eb0 : (y == 0) = false := by simp; omega
  have eam : (x == -9223372036854775808) = false := by rw [beq_eq_false_iff_ne]; omega
  have ebm : (y == -9223372036854775808) = false := by rw [beq_eq_false_iff_ne]; omega
  have da : decide (x < 0) = false := by simp; omega
  have db : decide (y < 0) = false := by simp; omega
  go_enter Try.func19, Try.ntmps19
  go_wp2
  all_goals
    go_ret2
    exact ⟨rfl, rfl⟩

theorem rmul_pn_ok (x y : Int) (w : World) (hx : 1 ≤ x) (hx2 : x ≤ 9223372036854775807) (hy : 1 ≤ y) (hy2 : y ≤ 9223372036854775807) (hq : x ≤ 9223372036854775807 / y) (hp1 : 1 ≤ x * y) (hp2 : x * y ≤ 9223372036854775807) :
    Calls Try.prog 19 #[.int .i64 x, .int .i64 (-y)] w fun e w' => e = .returned (.tuple #[.int .i64 (-(x * y)), .bool true]) ∧ w = w' := by
  have ea0 : (x == 0) = false := by simp; omega
  have eb0 : ((-y) == 0) = false := by simp; omega
  have eam : (x == -9223372036854775808) = false := by rw [beq_eq_false_iff_ne]; omega
  have ebm : ((-y) == -9223372036854775808) = false := by rw [beq_eq_false_iff_ne]; omega
  have da : decide (x < 0) = false := by simp; omega
  have db : decide (0 < y) = true := by simp; omega
  go_enter Try.func19, Try.ntmps19
  go_wp2
  all_goals
    go_ret2
    exact ⟨rfl, rfl⟩

theorem rmul_pn_least (x y : Int) (w : World) (hx : 1 ≤ x) (hx2 : x ≤ 9223372036854775807) (hy : 1 ≤ y) (hy2 : y ≤ 9223372036854775807) (hq : 9223372036854775807 / y < x) (he : (x % 2 == 0) = true) (hh : x / 2 ≤ 9223372036854775807 / y) (hp1 : 0 ≤ x / 2 * y) (hp2 : x / 2 * y ≤ 9223372036854775807) (hp : (x / 2 * y == 4611686018427387904) = true) :
    Calls Try.prog 19 #[.int .i64 x, .int .i64 (-y)] w fun e w' => e = .returned (.tuple #[.int .i64 (-9223372036854775808), .bool true]) ∧ w = w' := by
  have ea0 : (x == 0) = false := by simp; omega
  have eb0 : ((-y) == 0) = false := by simp; omega
  have eam : (x == -9223372036854775808) = false := by rw [beq_eq_false_iff_ne]; omega
  have ebm : ((-y) == -9223372036854775808) = false := by rw [beq_eq_false_iff_ne]; omega
  have da : decide (x < 0) = false := by simp; omega
  have db : decide (0 < y) = true := by simp; omega
  go_enter Try.func19, Try.ntmps19
  go_wp2
  all_goals
    go_ret2
    exact ⟨rfl, rfl⟩

theorem rmul_pn_no (x y : Int) (w : World) (hx : 1 ≤ x) (hx2 : x ≤ 9223372036854775807) (hy : 1 ≤ y) (hy2 : y ≤ 9223372036854775807) (hq : 9223372036854775807 / y < x)
    (c : (x % 2 == 0) = false ∨ ((x % 2 == 0) = true ∧ decide (x / 2 ≤ 9223372036854775807 / y) = false) ∨ ((x % 2 == 0) = true ∧ decide (x / 2 ≤ 9223372036854775807 / y) = true ∧ (wrap64 (x / 2 * y) == 4611686018427387904) = false))
    (d : (y % 2 == 0) = false ∨ ((y % 2 == 0) = true ∧ decide (y / 2 ≤ 9223372036854775807 / x) = false) ∨ ((y % 2 == 0) = true ∧ decide (y / 2 ≤ 9223372036854775807 / x) = true ∧ (wrap64 (y / 2 * x) == 4611686018427387904) = false)) :
    Calls Try.prog 19 #[.int .i64 x, .int .i64 (-y)] w fun e w' => e = .returned (.tuple #[.int .i64 0, .bool false]) ∧ w = w' := by
  have ea0 : (x == 0) = false := by simp; omega
  have eb0 : ((-y) == 0) = false := by simp; omega
  have eam : (x == -9223372036854775808) = false := by rw [beq_eq_false_iff_ne]; omega
  have ebm : ((-y) == -9223372036854775808) = false := by rw [beq_eq_false_iff_ne]; omega
  have da : decide (x < 0) = false := by simp; omega
  have db : decide (0 < y) = true := by simp; omega
  rcases c with c | ⟨c, c2⟩ | ⟨c, c2, c3⟩ <;> rcases d with d | ⟨d, d2⟩ | ⟨d, d2, d3⟩
  all_goals
    go_enter Try.func19, Try.ntmps19
    go_wp2
  all_goals
    go_ret2
    exact ⟨rfl, rfl⟩

theorem rmul_np_ok (x y : Int) (w : World) (hx : 1 ≤ x) (hx2 : x ≤ 9223372036854775807) (hy : 1 ≤ y) (hy2 : y ≤ 9223372036854775807) (hq : x ≤ 9223372036854775807 / y) (hp1 : 1 ≤ x * y) (hp2 : x * y ≤ 9223372036854775807) :
    Calls Try.prog 19 #[.int .i64 (-x), .int .i64 y] w fun e w' => e = .returned (.tuple #[.int .i64 (-(x * y)), .bool true]) ∧ w = w' := by
  have ea0 : ((-x) == 0) = false := by simp; omega
  have eb0 : (y == 0) = false := by simp; omega
  have eam : ((-x) == -9223372036854775808) = false := by rw [beq_eq_false_iff_ne]; omega
  have ebm : (y == -9223372036854775808) = false := by rw [beq_eq_false_iff_ne]; omega
  have da : decide (0 < x) = true := by simp; omega
  have db : decide (y < 0) = false := by simp; omega
  go_enter Try.func19, Try.ntmps19
  go_wp2
  all_goals
    go_ret2
    exact ⟨rfl, rfl⟩

theorem rmul_np_least (x y : Int) (w : World) (hx : 1 ≤ x) (hx2 : x ≤ 9223372036854775807) (hy : 1 ≤ y) (hy2 : y ≤ 9223372036854775807) (hq : 9223372036854775807 / y < x) (he : (x % 2 == 0) = true) (hh : x / 2 ≤ 9223372036854775807 / y) (hp1 : 0 ≤ x / 2 * y) (hp2 : x / 2 * y ≤ 9223372036854775807) (hp : (x / 2 * y == 4611686018427387904) = true) :
    Calls Try.prog 19 #[.int .i64 (-x), .int .i64 y] w fun e w' => e = .returned (.tuple #[.int .i64 (-9223372036854775808), .bool true]) ∧ w = w' := by
  have ea0 : ((-x) == 0) = false := by simp; omega
  have eb0 : (y == 0) = false := by simp; omega
  have eam : ((-x) == -9223372036854775808) = false := by rw [beq_eq_false_iff_ne]; omega
  have ebm : (y == -9223372036854775808) = false := by rw [beq_eq_false_iff_ne]; omega
  have da : decide (0 < x) = true := by simp; omega
  have db : decide (y < 0) = false := by simp; omega
  go_enter Try.func19, Try.ntmps19
  go_wp2
  all_goals
    go_ret2
    exact ⟨rfl, rfl⟩

theorem rmul_np_no (x y : Int) (w : World) (hx : 1 ≤ x) (hx2 : x ≤ 9223372036854775807) (hy : 1 ≤ y) (hy2 : y ≤ 9223372036854775807) (hq : 9223372036854775807 / y < x)
    (c : (x % 2 == 0) = false ∨ ((x % 2 == 0) = true ∧ decide (x / 2 ≤ 9223372036854775807 / y) = false) ∨ ((x % 2 == 0) = true ∧ decide (x / 2 ≤ 9223372036854775807 / y) = true ∧ (wrap64 (x / 2 * y) == 4611686018427387904) = false))
    (d : (y % 2 == 0) = false ∨ ((y % 2 == 0) = true ∧ decide (y / 2 ≤ 9223372036854775807 / x) = false) ∨ ((y % 2 == 0) = true ∧ decide (y / 2 ≤ 9223372036854775807 / x) = true ∧ (wrap64 (y / 2 * x) == 4611686018427387904) = false)) :
    Calls Try.prog 19 #[.int .i64 (-x), .int .i64 y] w fun e w' => e = .returned (.tuple #[.int .i64 0, .bool false]) ∧ w = w' := by
  have ea0 : ((-x) == 0) = false := by simp; omega
  have eb0 : (y == 0) = false := by simp; omega
  have eam : ((-x) == -9223372036854775808) = false := by rw [beq_eq_false_iff_ne]; omega
  have ebm : (y == -9223372036854775808) = false := by rw [beq_eq_false_iff_ne]; omega
  have da : decide (0 < x) = true := by simp; omega
  have db : decide (y < 0) = false := by simp; omega
  rcases c with c | ⟨c, c2⟩ | ⟨c, c2, c3⟩ <;> rcases d with d | ⟨d, d2⟩ | ⟨d, d2, d3⟩
  all_goals
    go_enter Try.func19, Try.ntmps19
    go_wp2
  all_goals
    go_ret2
    exact ⟨rfl, rfl⟩

theorem rmul_nn_ok (x y : Int) (w : World) (hx : 1 ≤ x) (hx2 : x ≤ 9223372036854775807) (hy : 1 ≤ y) (hy2 : y ≤ 9223372036854775807) (hq : x ≤ 9223372036854775807 / y) (hp1 : 1 ≤ x * y) (hp2 : x * y ≤ 9223372036854775807) :
    Calls Try.prog 19 #[.int .i64 (-x), .int .i64 (-y)] w fun e w' => e = .returned (.tuple #[.int .i64 (x * y), .bool true]) ∧ w = w' := by
  have ea0 : ((-x) == 0) = false := by simp; omega
  have eb0 : ((-y) == 0) = false := by simp; omega
  have eam : ((-x) == -9223372036854775808) = false := by rw [beq_eq_false_iff_ne]; omega
  have ebm : ((-y) == -9223372036854775808) = false := by rw [beq_eq_false_iff_ne]; omega
  have da : decide (0 < x) = true := by simp; omega
  have db : decide (0 < y) = true := by simp; omega
  go_enter Try.func19, Try.ntmps19
  go_wp2
  all_goals
    go_ret2
    exact ⟨rfl, rfl⟩

theorem rmul_nn_no (x y : Int) (w : World) (hx : 1 ≤ x) (hx2 : x ≤ 9223372036854775807) (hy : 1 ≤ y) (hy2 : y ≤ 9223372036854775807) (hq : 9223372036854775807 / y < x) :
    Calls Try.prog 19 #[.int .i64 (-x), .int .i64 (-y)] w fun e w' => e = .returned (.tuple #[.int .i64 0, .bool false]) ∧ w = w' := by
  have ea0 : ((-x) == 0) = false := by simp; omega
  have eb0 : ((-y) == 0) = false := by simp; omega
  have eam : ((-x) == -9223372036854775808) = false := by rw [beq_eq_false_iff_ne]; omega
  have ebm : ((-y) == -9223372036854775808) = false := by rw [beq_eq_false_iff_ne]; omega
  have da : decide (0 < x) = true := by simp; omega
  have db : decide (0 < y) = true := by simp; omega
  go_enter Try.func19, Try.ntmps19
  go_wp2
  all_goals
    go_ret2
    exact ⟨rfl, rfl⟩

end Go.Proofs.Ytgombejncjcjhaa
