/-
  Several rows of the call's own, all apart; boxes are rows of one element.
  Conditions: none beyond each theorem's own.
-/
import Derived.Test.YtoicmoodhblflaaPut
namespace Go.Proofs.Ytoicmoodhblflaa
open Go.RowKit
set_option linter.unusedVariables false

/-- a row: its elements' type and size, its slice, how many, its cells -/
structure Row where
  e : TypeId
  size : Nat
  v : Value
  n : Nat
  xs : List Value

def Row.own (B : Nat) (w : World) (r : Row) : Prop := w.ownsRow B r.e r.size r.v r.n r.xs
def Apart (a b : Row) : Prop := ∀ k, a.v.ownBlock = some k → b.v.ownBlock = some k → False
theorem Apart.symm {a b : Row} (h : Apart a b) : Apart b a := fun k h1 h2 => h k h2 h1

structure AllOwn (B : Nat) (w : World) (rs : List Row) : Prop where
  own : ∀ r ∈ rs, r.own B w
  apart : rs.Pairwise Apart

/-- a box of so many cells -/
def boxRow (b : Nat) (t : TypeId) (cs : List Value) : Row := ⟨t, cs.length, .slice (some ⟨b, 0, none⟩) 1 1, 1, cs⟩
def arcRow (v : Value) (l : List (Int × Int)) : Row := ⟨34, 2, v, l.length, l.flatMap arcL⟩
def plRow (v : Value) (l : List Pl) : Row := ⟨23, 2, v, l.length, l.flatMap plL⟩
def trRow (v : Value) (l : List (Tr × Value × Value × Value)) : Row := ⟨27, 6, v, l.length, l.flatMap trL⟩

section
variable {B : Nat} {w w' : World} {r r' : Row} {rs pre post : List Row}

theorem Row.lt (h : r.own B w) {k : Nat} (hk : r.v.ownBlock = some k) : B ≤ k ∧ k < w.heap.size := World.ownsRow.lt h k hk

theorem AllOwn.nil (B : Nat) (w : World) : AllOwn B w [] := ⟨(fun _ h => by cases h), List.Pairwise.nil⟩

theorem AllOwn.swap (h : AllOwn B w (pre ++ r :: post)) (hk : Kept (fun k => r.v.ownBlock = some k) w w') (hr : r'.own B w') (hf : r'.v.ownBlock = r.v.ownBlock ∨ ∃ k, r'.v.ownBlock = some k ∧ w.heap.size ≤ k) :
    AllOwn B w' (pre ++ r' :: post) := by
  have hp := h.apart
  rw [List.pairwise_append, List.pairwise_cons] at hp
  obtain ⟨p1, ⟨p2, p3⟩, p4⟩ := hp
  have hx : ∀ x : Row, x.own B w → Apart x r → x.own B w' := fun x hx ha => ownS hx hk (fun k h1 h2 => ha k h1 h2)
  have hn : ∀ x : Row, x.own B w → Apart x r → Apart x r' := by
    intro x hx ha k h1 h2
    rcases hf with e | ⟨k', e, hk'⟩
    · rw [e] at h2; exact ha k h1 h2
    · rw [e] at h2; injection h2 with h2; have := (Row.lt hx h1).2; omega
  refine ⟨fun x hm => ?_, ?_⟩
  · rw [List.mem_append, List.mem_cons] at hm
    rcases hm with hm | rfl | hm
    · exact hx x (h.own x (by simp [hm])) (p4 x hm r (by simp))
    · exact hr
    · exact hx x (h.own x (by simp [hm])) (p2 x hm).symm
  · rw [List.pairwise_append, List.pairwise_cons]
    refine ⟨p1, ⟨fun x hm => (hn x (h.own x (by simp [hm])) (p2 x hm).symm).symm, p3⟩, fun a ha b hb => ?_⟩
    rw [List.mem_cons] at hb
    rcases hb with rfl | hb
    · exact hn a (h.own a (by simp [ha])) (p4 a ha r (by simp))
    · exact p4 a ha b (by simp [hb])

theorem AllOwn.keep {S : Nat → Prop} (h : AllOwn B w rs) (hk : Kept S w w') (hS : ∀ k, B ≤ k → k < w.heap.size → ¬ S k) : AllOwn B w' rs :=
  ⟨fun x hm => ownS (h.own x hm) hk (fun k hk2 => hS k (Row.lt (h.own x hm) hk2).1 (Row.lt (h.own x hm) hk2).2), h.apart⟩
theorem AllOwn.below (h : AllOwn B w rs) (hb : Below w.heap.size w w') : AllOwn B w' rs := h.keep (S := fun _ => False) (Kept.of_below hb) (fun _ _ _ e => e)
theorem AllOwn.alloc (h : AllOwn B w rs) (o : Obj) : AllOwn B (w.alloc o) rs := h.below ((Below.refl _ _).alloc (Nat.le_refl _) o)
theorem AllOwn.drewN (h : AllOwn B w rs) (n : Nat) : AllOwn B (w.drewN n) rs := h.below ⟨rfl, rfl, rfl, Nat.le_refl _, fun _ _ => rfl⟩

/-- one more that is new -/
theorem AllOwn.add (h : AllOwn B w rs) (hb : Below w.heap.size w w') (hr : r.own B w') (hf : ∀ k, r.v.ownBlock = some k → w.heap.size ≤ k) : AllOwn B w' (rs ++ [r]) := by
  have h2 := h.below hb
  refine ⟨fun x hm => ?_, ?_⟩
  · rw [List.mem_append, List.mem_singleton] at hm
    rcases hm with hm | rfl
    · exact h2.own x hm
    · exact hr
  · rw [List.pairwise_append]
    refine ⟨h.apart, List.pairwise_singleton _ _, fun a ha b hb k h1 h2 => ?_⟩
    rw [List.mem_singleton] at hb
    subst hb
    have := (Row.lt (h.own a ha) h1).2
    have := hf k h2
    omega

theorem AllOwn.sub {rs' : List Row} (h : AllOwn B w rs) (hs : rs'.Sublist rs) : AllOwn B w rs' := ⟨fun x hm => h.own x (hs.subset hm), h.apart.sublist hs⟩
theorem AllOwn.perm {rs' : List Row} (h : AllOwn B w rs) (hs : rs.Perm rs') : AllOwn B w rs' := ⟨fun x hm => h.own x (hs.mem_iff.2 hm), (hs.pairwise_iff (fun {a b} h => h.symm)).1 h.apart⟩
theorem AllOwn.mono {B' : Nat} (h : AllOwn B w rs) (hB : B' ≤ B) : AllOwn B' w rs := ⟨fun x hm => own_mono (h.own x hm) hB, h.apart⟩

/-- a box that is new -/
theorem boxRow.new (B : Nat) (w : World) (t : TypeId) (cs : Array Value) (hB : B ≤ w.heap.size) : (boxRow w.heap.size t cs.toList).own B (w.alloc (.cells cs t)) := by
  have e : cs.toList.take (1 * cs.toList.length) = cs.toList := by rw [Nat.one_mul, List.take_length]
  exact ⟨by simp [boxRow], .inr ⟨w.heap.size, 1, cs, rfl, hB, heap_alloc_new w _, Nat.le_refl _, by unfold maxLen; omega, by simp [boxRow], e⟩⟩

theorem boxRow.cell {b : Nat} {t : TypeId} {cs : List Value} (h : (boxRow b t cs).own B w) {j : Nat} {x : Value} (hj : cs[j]? = some x) : w.cell? ⟨b, j, none⟩ = some x := by
  have := World.ownsRow.cellAt h j (by simp [boxRow]; exact lt_at hj)
  rw [this]; exact hj
theorem boxRow.froz {b : Nat} {t : TypeId} {cs : List Value} (h : (boxRow b t cs).own B w) (j : Nat) : w.frozen? ⟨b, j, none⟩ = false := World.ownsRow.frozenAt h j
theorem boxRow.lt {b : Nat} {t : TypeId} {cs : List Value} (h : (boxRow b t cs).own B w) : B ≤ b ∧ b < w.heap.size := Row.lt h rfl

/-- a cell of a box stored -/
theorem AllOwn.store {b : Nat} {t : TypeId} {cs : List Value} (h : AllOwn B w (pre ++ boxRow b t cs :: post)) (j : Nat) (x : Value) :
    AllOwn B (w.setCell ⟨b, j, none⟩ x) (pre ++ boxRow b t (cs.set j x) :: post) ∧ Kept (fun k => k = b) w (w.setCell ⟨b, j, none⟩ x) := by
  have ho := h.own (boxRow b t cs) (by simp)
  obtain ⟨h1, hg⟩ := World.ownsRow.stored ho j x
  have hk : Kept (fun k => (boxRow b t cs).v.ownBlock = some k) w (w.setCell ⟨b, j, none⟩ x) := (Kept.refl _ w).grown hg (fun k e => by rw [← e]; rfl)
  refine ⟨h.swap hk (r' := boxRow b t (cs.set j x)) ?_ (.inl rfl), hk.mono (fun k _ e => by injection e with e; exact e.symm)⟩
  have e : (cs.set j x).length = cs.length := List.length_set
  show World.ownsRow _ B t (cs.set j x).length _ 1 (cs.set j x)
  rw [e]
  exact h1
end
end Go.Proofs.Ytoicmoodhblflaa
