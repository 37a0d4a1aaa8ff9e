/-
  A box of two cells, and what comes behind it; a net's slices.
  Conditions: none beyond each theorem's own.
-/
import Derived.Test.YtpbbdnicafifpaaMakeW
namespace Go.Proofs.Ytpbbdnicafifpaa
open Go.RowKit
set_option linter.unusedVariables false

structure InBx (t : TypeId) (w wr : World) (x y : Value) : Prop where
  below : Below (w.heap.size + 1) (w.alloc (.cells #[x, y] t)) wr
theorem InBx.start (t : TypeId) (w : World) (x y : Value) : InBx t w (w.alloc (.cells #[x, y] t)) x y := ⟨Below.refl _ _⟩
theorem InBx.old {t : TypeId} {w wr : World} {x y : Value} (h : InBx t w wr x y) : Below w.heap.size w wr := ((Below.refl _ w).alloc (Nat.le_refl _) _).trans (h.below.mono (by omega))
theorem InBx.size {t : TypeId} {w wr : World} {x y : Value} (h : InBx t w wr x y) : w.heap.size < wr.heap.size := by have := h.below.size; simp at this; omega
theorem InBx.go {t : TypeId} {w wr w' : World} {x y : Value} (h : InBx t w wr x y) (hb : Below wr.heap.size wr w') : InBx t w w' x y := ⟨h.below.trans (hb.mono (by have := h.below.size; simp at this; omega))⟩
theorem InBx.c0 {t : TypeId} {w wr : World} {x y : Value} (h : InBx t w wr x y) : wr.cell? ⟨w.heap.size, 0, none⟩ = some x := (h.below.cell (p := ⟨w.heap.size, 0, none⟩) (by simp)).trans (by go_simp)
theorem InBx.c1 {t : TypeId} {w wr : World} {x y : Value} (h : InBx t w wr x y) : wr.cell? ⟨w.heap.size, 1, none⟩ = some y := (h.below.cell (p := ⟨w.heap.size, 1, none⟩) (by simp)).trans (by go_simp)

theorem NetAt.form {w : World} {vp vt : Value} {N : Nt} (h : NetAt w vp vt N) : ∃ a1 c1 a2 c2, vp = .slice a1 N.places.length c1 ∧ vt = .slice a2 N.trans.length c2 := by
  obtain ⟨g1, l, g2, g3⟩ := h
  obtain ⟨a1, c1, e1⟩ := RowAt.len g1
  obtain ⟨a2, c2, e2⟩ := RowAt.len g3.1
  have hl : l.length = N.trans.length := by rw [← g2]; simp
  rw [hl] at e2
  exact ⟨a1, c1, a2, c2, e1, e2⟩
theorem NetAt.form2 {w : World} {vp vt : Value} {N : Nt} (h : NetAt w vp vt N) : ∃ a1 n1 c1 a2 n2 c2, vp = .slice a1 n1 c1 ∧ vt = .slice a2 n2 c2 ∧ n1 = N.places.length ∧ n2 = N.trans.length := by
  obtain ⟨a1, c1, a2, c2, e1, e2⟩ := h.form
  exact ⟨a1, _, c1, a2, _, c2, e1, e2, rfl, rfl⟩
end Go.Proofs.Ytpbbdnicafifpaa
