/-
  A slice of bytes that came in: what is known of its cells.
  Conditions: none beyond each theorem's own.
-/
import Derived.Test.YtpfdmmidomofdaaBase4
import Derived.OpenShut
import Derived.ChangeOld
import Derived.Lib.SmallJoins
namespace Go.Proofs.Ytpfdmmidomofdaa
open Go.RowKit Go.Joins
set_option linter.unusedVariables false

/-- What the walk is told of a slice of integers that came in: it is nil; or it leads to a row of 'cap' cells, the numbers 'zs', of which the first 'len' are its elements, each fitting its kind. -/
def IsRow (k : IntKind) (w : World) (a : Option Addr) (len cap : Nat) (zs : List Int) : Prop :=
  (a = none ∧ len = 0 ∧ cap = 0 ∧ zs = []) ∨
  ∃ x, a = some x ∧ len ≤ cap ∧ cap ≤ maxLen ∧ zs.length = cap ∧ (∀ i, i < zs.length → w.cell? (x.add i) = some (.int k (zs.getD i 0))) ∧ ∀ n ∈ zs, (Lit.int k n).wf = true

theorem u8_bd {z : Int} (h : (Lit.int .u8 z).wf = true) : 0 ≤ z ∧ z ≤ 255 := bounds_u8 h

theorem zi_of {z : Int} (h : 0 ≤ z ∧ z ≤ 255) : zi (UInt8.ofNat z.toNat) = z := by
  unfold zi
  have : (UInt8.ofNat z.toNat).toNat = z.toNat := by simp; omega
  rw [this]; omega

theorem IsRow.bytes {w : World} {a : Option Addr} {len cap : Nat} {zs : List Int} (h : IsRow .u8 w a len cap zs) : len ≤ cap ∧ ∃ l, BytesAt w a len l := by
  rcases h with ⟨rfl, rfl, rfl, rfl⟩ | ⟨x, rfl, hl, hc, hz, hcell, hwf⟩
  · exact ⟨Nat.le_refl _, [], rfl, fun h => by omega⟩
  · refine ⟨hl, (zs.take len).map (fun z => UInt8.ofNat z.toNat), by simp; omega, fun hn => ?_⟩
    obtain ⟨b, off, rfl, hc2⟩ := ints_at hcell (by omega)
    refine ⟨b, off, rfl, World.block_lt_of_cell? w _ (hc2 0 (by omega)), fun i y hy => ?_⟩
    have hi : i < len := by have := (List.getElem?_eq_some_iff.1 hy).1; simp at this; omega
    have hm : zs.getD i 0 ∈ zs := by simp [show i < zs.length by omega]
    rw [hc2 i (by omega)]
    have e : (zs.take len)[i]? = some (zs.getD i 0) := by
      rw [List.getElem?_take, if_pos hi]
      simp [List.getD, show i < zs.length by omega]
    rw [List.getElem?_map, e] at hy
    simp only [Option.map_some, Option.some.injEq] at hy
    rw [← hy, zi_of (u8_bd (hwf _ hm))]

theorem IsRow.max {k : IntKind} {w : World} {a : Option Addr} {len cap : Nat} {zs : List Int} (h : IsRow k w a len cap zs) : len ≤ 9223372036854775807 := by
  rcases h with ⟨_, rfl, _⟩ | ⟨x, rfl, hl, hc, _⟩
  · omega
  · unfold maxLen at hc; omega

end Go.Proofs.Ytpfdmmidomofdaa
