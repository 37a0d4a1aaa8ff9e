/-
  The walk of the law SwiftParts: an engine that has some transitions alone, and tells what goes away.
  Conditions: none beyond the theorems' own.
-/
import Derived.Test.YtpbbdnicafifpaaAwake10
import Derived.Test.YtpbbdnicafifpaaPartsM
import Derived.Test.YtpbbdnicafifpaaEgNil
import Derived.Test.YtpbbdnicafifpaaEgS
import Derived.Test.YtpbbdnicafifpaaEgL
import Derived.Test.YtpbbdnicafifpaaEgO
import Derived.Test.YtpbbdnicafifpaaEgT
namespace Go.Proofs.Ytpbbdnicafifpaa
open Go.RowKit
set_option linter.unusedVariables false

/-- the law's net, laid cell by cell -/
def partsX (w : World) (k d : Nat) : World := ((((((w.alloc (.cells #[.string { data := #[112] }, .int .i64 (k : Int), .string { data := #[113] }, .int .i64 0] 57)).alloc (.cells #[.int .i64 0, .int .i64 1] 76)).alloc (.cells #[.int .i64 1, .int .i64 3] 76)).alloc (.cells #[.int .i64 1, .int .i64 1] 76)).alloc (.cells #[.string { data := #[116] }, .int .i64 (d : Int), .int .i64 0, .slice (some ⟨w.heap.size + 1, 0, none⟩) 1 1, .slice none 0 0, .slice (some ⟨w.heap.size + 1 + 1, 0, none⟩) 1 1, .string { data := #[117] }, .int .i64 0, .int .i64 0, .slice (some ⟨w.heap.size + 1 + 1 + 1, 0, none⟩) 1 1, .slice none 0 0, .slice none 0 0] 79)).alloc (.cells #[.slice (some ⟨w.heap.size, 0, none⟩) 2 2, .slice (some ⟨w.heap.size + 1 + 1 + 1 + 1, 0, none⟩) 2 2] 31))
theorem partsX_below (w : World) (k d : Nat) : Below w.heap.size w (partsX w k d) := ((((((Below.refl _ w).alloc (Nat.le_refl _) _).alloc (by simp) _).alloc (by simp; omega) _).alloc (by simp; omega) _).alloc (by simp; omega) _).alloc (by simp; omega) _
theorem partsX_size (w : World) (k d : Nat) : (partsX w k d).heap.size = w.heap.size + 1 + 1 + 1 + 1 + 1 + 1 := by unfold partsX; simp
theorem partsX_net (w : World) (k d : Nat) : NetAt (partsX w k d) (.slice (some ⟨w.heap.size, 0, none⟩) 2 2) (.slice (some ⟨w.heap.size + 1 + 1 + 1 + 1, 0, none⟩) 2 2) (partsN k d) ∧ (partsX w k d).cell? ⟨w.heap.size + 1 + 1 + 1 + 1 + 1, 0, none⟩ = some (.slice (some ⟨w.heap.size, 0, none⟩) 2 2) ∧ (partsX w k d).cell? ⟨w.heap.size + 1 + 1 + 1 + 1 + 1, 1, none⟩ = some (.slice (some ⟨w.heap.size + 1 + 1 + 1 + 1, 0, none⟩) 2 2) := by
  have hsz := partsX_size w k d
  have k0 : CellsAre (partsX w k d) w.heap.size 0 [.string { data := #[112] }, .int .i64 (k : Int), .string { data := #[113] }, .int .i64 0] := by
    refine ⟨?_, ?_, ?_, ?_, trivial⟩
    all_goals (unfold partsX; go_simp)
  have k1 : CellsAre (partsX w k d) (w.heap.size + 1) 0 [.int .i64 0, .int .i64 1] := ⟨by unfold partsX; go_simp, by unfold partsX; go_simp, trivial⟩
  have k2 : CellsAre (partsX w k d) (w.heap.size + 1 + 1) 0 [.int .i64 1, .int .i64 3] := ⟨by unfold partsX; go_simp, by unfold partsX; go_simp, trivial⟩
  have k3 : CellsAre (partsX w k d) (w.heap.size + 1 + 1 + 1) 0 [.int .i64 1, .int .i64 1] := ⟨by unfold partsX; go_simp, by unfold partsX; go_simp, trivial⟩
  have k4 : CellsAre (partsX w k d) (w.heap.size + 1 + 1 + 1 + 1) 0 [.string { data := #[116] }, .int .i64 (d : Int), .int .i64 0, .slice (some ⟨w.heap.size + 1, 0, none⟩) 1 1, .slice none 0 0, .slice (some ⟨w.heap.size + 1 + 1, 0, none⟩) 1 1, .string { data := #[117] }, .int .i64 0, .int .i64 0, .slice (some ⟨w.heap.size + 1 + 1 + 1, 0, none⟩) 1 1, .slice none 0 0, .slice none 0 0] := by
    refine ⟨?_, ?_, ?_, ?_, ?_, ?_, ?_, ?_, ?_, ?_, ?_, ?_, trivial⟩
    all_goals (unfold partsX; go_simp)
  have r0 : PlsAt (partsX w k d) (.slice (some ⟨w.heap.size, 0, none⟩) 2 2) (partsPls k) := k0.row (by omega) rfl (Nat.le_refl _) (by omega)
  have r1 : ArcsAt (partsX w k d) (.slice (some ⟨w.heap.size + 1, 0, none⟩) 1 1) [(0, 1)] := k1.row (by omega) rfl (Nat.le_refl _) (by omega)
  have r2 : ArcsAt (partsX w k d) (.slice (some ⟨w.heap.size + 1 + 1, 0, none⟩) 1 1) [(1, 3)] := k2.row (by omega) rfl (Nat.le_refl _) (by omega)
  have r3 : ArcsAt (partsX w k d) (.slice (some ⟨w.heap.size + 1 + 1 + 1, 0, none⟩) 1 1) [(1, 1)] := k3.row (by omega) rfl (Nat.le_refl _) (by omega)
  have r4 : RowAt 6 (partsX w k d) (.slice (some ⟨w.heap.size + 1 + 1 + 1 + 1, 0, none⟩) 2 2) 2 ([(partsT d, Value.slice (some ⟨w.heap.size + 1, 0, none⟩) 1 1, Value.slice none 0 0, Value.slice (some ⟨w.heap.size + 1 + 1, 0, none⟩) 1 1), (partsU, Value.slice (some ⟨w.heap.size + 1 + 1 + 1, 0, none⟩) 1 1, Value.slice none 0 0, Value.slice none 0 0)].flatMap trL) := k4.row (by omega) rfl (Nat.le_refl _) (by omega)
  have rn : ArcsAt (partsX w k d) (.slice none 0 0) [] := RowAt.nil _ _
  refine ⟨⟨r0, _, rfl, r4, ?_⟩, by unfold partsX; go_simp, by unfold partsX; go_simp⟩
  intro x hx
  simp only [List.mem_cons, List.not_mem_nil, or_false] at hx
  rcases hx with rfl | rfl
  · exact ⟨r1, rn, r2⟩
  · exact ⟨r3, rn, rn⟩

end Go.Proofs.Ytpbbdnicafifpaa
