/-
  Small facts on rows of ints in memory: a block that holds just these ints, and a slice that reads as a list of ints.
  Conditions: none beyond each theorem's own.
-/
import Derived.Test.YtgombejncjcjhaaArith
import Derived.Laws.CopyOwn
import Derived.Laws.OwnMore
import Derived.Lib.SmallJoins
import Derived.Deep.Draws
namespace Go.Proofs.Ytgombejncjcjhaa
open Go.RowKit

/-- block g holds just these ints, and may be written -/
def Row (w : World) (g : Nat) (xs : List Int) : Prop := w.heap[g]? = some (.cells (xs.map (Value.int .i64)).toArray 3 (0, 0))

/-- a slice at this address, as long as the list, holds the list's ints -/
def Reads (w : World) (a : Option Addr) (zs : List Int) : Prop :=
  zs = [] ∨ ∃ b off, a = some ⟨b, off, none⟩ ∧ b < w.heap.size ∧ ∀ i, i < zs.length → w.cell? ⟨b, off + i, none⟩ = some (.int .i64 (zs.getD i 0))

section
variable {w w' : World} {g : Nat} {xs : List Int}

theorem Row.lt (h : Row w g xs) : g < w.heap.size := by
  rcases Nat.lt_or_ge g w.heap.size with hl | hg
  · exact hl
  · unfold Row at h; rw [Array.getElem?_eq_none hg] at h; cases h

theorem Row.cell (h : Row w g xs) (i : Nat) (hi : i < xs.length) : w.cell? ⟨g, i, none⟩ = some (.int .i64 (xs.getD i 0)) := by
  rw [cell_of_row w g i _ 3 (0, 0) h]
  simp [hi]

theorem Row.notFrozen (h : Row w g xs) (i : Nat) : w.frozen? ⟨g, i, none⟩ = false := by
  unfold Row at h
  simp [World.frozen?, h]

theorem Row.drewN (h : Row w g xs) (n : Nat) : Row (w.drewN n) g xs := h

theorem Row.drew (h : Row w g xs) : Row w.drew g xs := h

theorem Row.below {B : Nat} (h : Row w g xs) (hb : Below B w w') (hg : g < B) : Row w' g xs := (hb.block g hg).trans h

theorem Row.alloc (h : Row w g xs) (o : Obj) : Row (w.alloc o) g xs := (Below.heap_alloc w o g h.lt).trans h

theorem Row.put (h : Row w g xs) (i : Nat) (v : Int) : Row (w.setCell ⟨g, i, none⟩ (.int .i64 v)) g (xs.set i v) := by
  have := Joins.block_setCell (i := i) h (.int .i64 v)
  unfold Row
  rw [this]
  simp [List.map_set]

theorem Row.reads (h : Row w g xs) : Reads w (some ⟨g, 0, none⟩) xs :=
  .inr ⟨g, 0, rfl, h.lt, fun i hi => by rw [Nat.zero_add]; exact h.cell i hi⟩

theorem Row.owns (h : Row w g xs) {base : Nat} (hb : base ≤ g) (hm : xs.length ≤ maxLen) : w.ownsRow base 3 1 (.slice (some ⟨g, 0, none⟩) xs.length xs.length) xs.length (xs.map (Value.int .i64)) := by
  refine ⟨by simp, .inr ⟨g, xs.length, _, rfl, hb, h, Nat.le_refl _, hm, by simp, ?_⟩⟩
  simp only [Nat.mul_one]
  exact List.take_of_length_le (by simp)

end

theorem Reads.mono {w w' : World} {a : Option Addr} {zs : List Int} (h : Reads w a zs) (hs : w.heap.size ≤ w'.heap.size) (hk : ∀ p : Addr, p.block < w.heap.size → w'.cell? p = w.cell? p) : Reads w' a zs := by
  rcases h with h | ⟨b, off, ha, hb, hc⟩
  · exact .inl h
  · exact .inr ⟨b, off, ha, by omega, fun i hi => (hk _ hb).trans (hc i hi)⟩

theorem Reads.below {w w' : World} {a : Option Addr} {zs : List Int} (h : Reads w a zs) (hb : Below w.heap.size w w') : Reads w' a zs :=
  h.mono hb.size fun _ hp => hb.cell hp

theorem below_drewN {B : Nat} {a w : World} (h : Below B a w) (n : Nat) : Below B a (w.drewN n) := ⟨h.os, h.tape, h.output, h.size, h.block⟩

end Go.Proofs.Ytgombejncjcjhaa
