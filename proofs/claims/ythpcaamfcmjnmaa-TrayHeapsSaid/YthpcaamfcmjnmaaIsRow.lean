/-
  A slice of integers that came in: what is known of its cells.
  Conditions: none beyond each theorem's own.
-/
import Derived.Test.YthpcaamfcmjnmaaKey
import Derived.OpenShut
import Derived.ChangeOld
namespace Go.Proofs.Ythpcaamfcmjnmaa
open Go.RowKit

/-- What the walk is told of a slice of integers that came in: it is nil; or it leads to a row of 'cap' cells, the numbers 'zs', of which the first 'len' are its elements, each fitting its kind. -/
def IsRow (k : IntKind) (w : World) (a : Option Addr) (len cap : Nat) (zs : List Int) : Prop :=
  (a = none ∧ len = 0 ∧ cap = 0 ∧ zs = []) ∨
  ∃ x, a = some x ∧ len ≤ cap ∧ cap ≤ maxLen ∧ zs.length = cap ∧ (∀ i, i < zs.length → w.cell? (x.add i) = some (.int k (zs.getD i 0))) ∧ ∀ n ∈ zs, (Lit.int k n).wf = true

/-- the byte at a place of such a slice -/
theorem IsRow.byte {w : World} {a : Option Addr} {len cap : Nat} {zs : List Int} (h : IsRow .u8 w a len cap zs) (i : Nat) (hi : i < len) :
    ∃ b off z, a = some ⟨b, off, none⟩ ∧ b < w.heap.size ∧ w.cell? ⟨b, off + i, none⟩ = some (.int .u8 z) ∧ 0 ≤ z ∧ z ≤ 255 := by
  rcases h with ⟨_, rfl, _⟩ | ⟨x, rfl, hl, hc, hz, hcell, hwf⟩
  · omega
  · obtain ⟨b, off, rfl, hc2⟩ := ints_at hcell (by omega)
    have hm : zs.getD i 0 ∈ zs := by simp [show i < zs.length by omega]
    have hb := bounds_u8 (hwf _ hm)
    exact ⟨b, off, zs.getD i 0, rfl, World.block_lt_of_cell? w _ (hc2 i (by omega)), hc2 i (by omega), hb.1, hb.2⟩

theorem IsRow.max {k : IntKind} {w : World} {a : Option Addr} {len cap : Nat} {zs : List Int} (h : IsRow k w a len cap zs) : len ≤ 9223372036854775807 := by
  rcases h with ⟨_, rfl, _⟩ | ⟨x, rfl, hl, hc, _⟩
  · omega
  · unfold maxLen at hc; omega

end Go.Proofs.Ythpcaamfcmjnmaa
