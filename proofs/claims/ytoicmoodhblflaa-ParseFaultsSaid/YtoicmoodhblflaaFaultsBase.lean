/-
  The walk of the law ParseFaults: for all its inputs it returns true.
  Conditions: none.
-/
import Derived.Test.YtoicmoodhblflaaPAwake
namespace Go.Proofs.Ytoicmoodhblflaa
open Go.RowKit
set_option linter.unusedVariables false

/-- the tables' three blocks -/
def fw (w : World) : World := ((w.alloc (.cells #[.string { data := #[112, 108, 97, 99, 32, 112, 59] }, .string { data := #[112, 108, 97, 99, 101, 32, 112] }, .string { data := #[112, 108, 97, 99, 101, 32, 112, 32, 61, 32, 120, 59] }, .string { data := #[112, 108, 97, 99, 101, 32, 112, 59, 32, 112, 108, 97, 99, 101, 32, 112, 59] }, .string { data := #[112, 108, 97, 99, 101, 32, 112, 59, 32, 116, 114, 97, 110, 115, 32, 112, 58, 32, 45, 62, 32, 59] }, .string { data := #[116, 114, 97, 110, 115, 32, 116, 58, 32, 113, 32, 45, 62, 32, 59] }, .string { data := #[112, 108, 97, 99, 101, 32, 112, 59, 32, 116, 114, 97, 110, 115, 32, 116, 58, 32, 112, 44, 32, 112, 32, 45, 62, 32, 59] }, .string { data := #[112, 108, 97, 99, 101, 32, 112, 59, 32, 116, 114, 97, 110, 115, 32, 116, 58, 32, 112, 42, 48, 32, 45, 62, 32, 59] }, .string { data := #[112, 108, 97, 99, 101, 32, 112, 32, 61, 32, 49, 48, 48, 48, 48, 48, 49, 59] }, .string { data := #[112, 108, 97, 99, 101, 32, 112, 59, 32, 116, 114, 97, 110, 115, 32, 116, 32, 64, 32, 45, 62, 32, 59] }, .string { data := #[112, 108, 97, 99, 101, 32, 112, 59, 32, 116, 114, 97, 110, 115, 32, 116, 58, 32, 112, 32, 112, 32, 45, 62, 32, 59] }, .string { data := #[112, 108, 97, 99, 101, 32, 112, 59, 32, 116, 114, 97, 110, 115, 32, 116, 58, 32, 45, 62, 32, 112] }, .string { data := #[63] }, .string { data := #[112, 108, 97, 99, 101, 32, 112, 59, 32, 116, 114, 97, 110, 115, 32, 116, 58, 32, 112, 44, 32, 126, 112, 32, 45, 62, 32, 112, 44, 32, 112, 59] }] 9)).alloc (.cells #[.int .i64 0, .int .i64 7, .int .i64 10, .int .i64 15, .int .i64 15, .int .i64 9, .int .i64 21, .int .i64 20, .int .i64 10, .int .i64 19, .int .i64 20, .int .i64 22, .int .i64 0, .int .i64 30] 3)).alloc (.cells #[.int .i64 6, .int .i64 6, .int .i64 6, .int .i64 7, .int .i64 7, .int .i64 7, .int .i64 7, .int .i64 3, .int .i64 3, .int .i64 6, .int .i64 6, .int .i64 6, .int .i64 6, .int .i64 7] 31)
theorem fw_below (w : World) : Below w.heap.size w (fw w) := (((Below.refl _ w).alloc (Nat.le_refl _) _).alloc (by simp) _).alloc (by simp; omega) _

end Go.Proofs.Ytoicmoodhblflaa
