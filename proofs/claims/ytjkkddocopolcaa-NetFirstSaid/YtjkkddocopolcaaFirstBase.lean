/-
  Names, and a list of nine arcs that is made at once.
  Conditions: none.
-/
import Derived.Test.YtjkkddocopolcaaNetHand
import Derived.Laws.MakeOwn
namespace Go.Proofs.Ytjkkddocopolcaa
open Go.RowKit
set_option linter.unusedVariables false

abbrev sP : ByteArray := { data := #[112] }
abbrev sQ : ByteArray := { data := #[113] }
abbrev sT : ByteArray := { data := #[116] }
def nine : List (Int × Int) := [(0, 0), (0, 0), (0, 0), (0, 0), (0, 0), (0, 0), (0, 0), (0, 0), (0, 0)]
theorem below_drewN {B : Nat} {a w : World} (h : Below B a w) (n : Nat) : Below B a (w.drewN n) := ⟨h.os, h.tape, h.output, h.size, h.block⟩
theorem Try.info_arc : (Try.prog.info? 45).map (fun i => (i.zero, i.size, i.bytes)) = some (some (.agg #[.int .i64 0, .int .i64 0]), 2, 16) := by kernel_rfl

theorem run_make9 (w : World) : (Instr.makeSlice 40 (.int .i64 9) (.int .i64 9)).run Try.prog w = .ok (.slice (some ⟨w.heap.size, 0, none⟩) 9 9) (w.alloc (.cells #[.int .i64 0, .int .i64 0, .int .i64 0, .int .i64 0, .int .i64 0, .int .i64 0, .int .i64 0, .int .i64 0, .int .i64 0, .int .i64 0, .int .i64 0, .int .i64 0, .int .i64 0, .int .i64 0, .int .i64 0, .int .i64 0, .int .i64 0, .int .i64 0] 45)) := by
  obtain ⟨i0, hi0, hz0, hz1, hz2⟩ := info_parts Try.info_arc
  have hr := run_make (P := Try.prog) w 40 45 i0 _ Try.underlying40 hi0 hz0 .i64 .i64 9 9 (by omega) (by omega) (by rw [hz2]; omega) (by omega)
  have e : madeCells (Value.agg #[Value.int IntKind.i64 0, Value.int IntKind.i64 0]).cells 18 = #[.int .i64 0, .int .i64 0, .int .i64 0, .int .i64 0, .int .i64 0, .int .i64 0, .int .i64 0, .int .i64 0, .int .i64 0, .int .i64 0, .int .i64 0, .int .i64 0, .int .i64 0, .int .i64 0, .int .i64 0, .int .i64 0, .int .i64 0, .int .i64 0] := by kernel_rfl
  rw [hr, hz1, show Int.toNat 9 * 2 = 18 from rfl, e]
  rfl
end Go.Proofs.Ytjkkddocopolcaa
