/-
  The document's example of Norm is as it says: awake of layer 1 answers true and changes nothing that was there.
  Conditions: none.
-/
import Derived.Test.YtgombejncjcjhaaNorm
namespace Go.Proofs.Ytgombejncjcjhaa
open Go.RowKit

theorem gcd46 : gcdl [4, -6] = 2 := by decide
theorem norm46 : norml [4, -6] = [2, -3] := by decide

set_option maxHeartbeats 400000 in
theorem awake1 (w : World) : Calls Try.prog 17 #[] w fun e w' => e = .returned (.bool true) ∧ Below w.heap.size w w' := by
  go_enter Try.func17, Try.ntmps17
  go_wp2_with fail
  have hr : Row (w.alloc (Obj.cells #[Value.int IntKind.i64 4, Value.int IntKind.i64 (-6)] 3)) w.heap.size [4, -6] := heap_alloc_new w _
  refine (norm_any (some ⟨w.heap.size, 0, none⟩) 2 [4, -6] _ hr.reads (by intro x hx; simp at hx; omega) (by simp)).mono ?_
  rintro e w1 ⟨rfl, hrow, hb⟩
  rw [norm46] at hrow
  have hz : (w.alloc (Obj.cells #[Value.int IntKind.i64 4, Value.int IntKind.i64 (-6)] 3)).heap.size = w.heap.size + 1 := by simp
  rw [hz] at hrow hb
  have c0 := hrow.cell 0 (by simp)
  have c1 := hrow.cell 1 (by simp)
  have hB : Below w.heap.size w w1 := ((Below.refl w.heap.size w).alloc (Nat.le_refl _) _).trans (hb.mono (by omega))
  clear hr hrow hb hz
  simp only [List.length_cons, List.length_nil]
  go_wp2
  go_ret
  exact ⟨rfl, hB⟩

end Go.Proofs.Ytgombejncjcjhaa
