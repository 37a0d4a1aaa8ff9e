/-
  What is known of a slice of integers that came in, and that it reads as a list of ints.
  Conditions: none beyond each theorem's own.
-/
import Derived.Test.YtgombejncjcjhaaDot
import Derived.OpenShut
import Derived.ChangeOld
namespace Go.Proofs.Ytgombejncjcjhaa
open Go.RowKit

/-- What the walk is told of a slice of integers that came in: it is nil; or it leads to a row of 'cap' cells, the numbers 'zs', of which the first 'len' are its elements, each fitting its kind. -/
def IsRow (k : IntKind) (w : World) (a : Option Addr) (len cap : Nat) (zs : List Int) : Prop :=
  (a = none ∧ len = 0 ∧ cap = 0 ∧ zs = []) ∨
  ∃ x, a = some x ∧ len ≤ cap ∧ cap ≤ maxLen ∧ zs.length = cap ∧ (∀ i, i < zs.length → w.cell? (x.add i) = some (.int k (zs.getD i 0))) ∧ ∀ n ∈ zs, (Lit.int k n).wf = true

theorem IsRow.reads {w : World} {a : Option Addr} {len cap : Nat} {zs : List Int} (h : IsRow .i64 w a len cap zs) : ∃ xs : List Int, len = xs.length ∧ Reads w a xs ∧ Ints xs ∧ len ≤ maxLen ∧ xs.length ≤ cap := by
  rcases h with ⟨rfl, rfl, rfl, rfl⟩ | ⟨x, rfl, hl, hc, hz, hcell, hwf⟩
  · exact ⟨[], rfl, .inl rfl, fun _ h => by simp at h, by unfold maxLen; omega, by simp⟩
  · refine ⟨zs.take len, by simp; omega, ?_, fun n hn => bounds_i64 (hwf n (List.mem_of_mem_take hn)), by omega, by simp; omega⟩
    by_cases h0 : len = 0
    · left; subst h0; simp
    · right
      obtain ⟨b, off, rfl, hc2⟩ := ints_at hcell (by omega)
      refine ⟨b, off, rfl, World.block_lt_of_cell? w _ (hc2 0 (by omega)), fun i hi => ?_⟩
      simp only [List.length_take] at hi
      rw [hc2 i (by omega)]
      simp [show i < len by omega]

end Go.Proofs.Ytgombejncjcjhaa
