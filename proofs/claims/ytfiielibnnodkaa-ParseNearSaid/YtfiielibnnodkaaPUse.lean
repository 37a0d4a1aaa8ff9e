/-
  What parse.Net answers, in the forms in which the laws take it.
  Conditions: none beyond each theorem's own.
-/
import Derived.Test.YtfiielibnnodkaaPNet
import Derived.Test.YtfiielibnnodkaaSameW
namespace Go.Proofs.Ytfiielibnnodkaa
open Go.RowKit
set_option linter.unusedVariables false

/-- a net and no fault, in two boxes behind each other -/
structure Res (W : World) (b : Nat) (v0 v1 : Value) : Prop where
  n0 : W.cell? ⟨b, 0, none⟩ = some v0
  n1 : W.cell? ⟨b, 1, none⟩ = some v1
  f0 : W.cell? ⟨b + 1, 0, none⟩ = some (.int .i64 0)
  f1 : W.cell? ⟨b + 1, 1, none⟩ = some (.int .i64 0)
  f2 : W.cell? ⟨b + 1, 2, none⟩ = some (.int .i64 0)
  f3 : W.cell? ⟨b + 1, 3, none⟩ = some (.int .i64 0)
  lt : b + 1 < W.heap.size

section
variable {w W W' : World} {b : Nat} {v0 v1 : Value}
theorem Res.start (w : World) (v0 v1 : Value) : Res ((w.alloc (.cells #[v0, v1] 30)).alloc (.cells #[.int .i64 0, .int .i64 0, .int .i64 0, .int .i64 0] 49)) w.heap.size v0 v1 :=
  ⟨by go_simp, by go_simp, by go_simp, by go_simp, by go_simp, by go_simp, by simp⟩
theorem Res.up (h : Res W b v0 v1) (hb : Below W.heap.size W W') : Res W' b v0 v1 :=
  ⟨(below_cells hb _ _ (by have := h.lt; omega)).trans h.n0, (below_cells hb _ _ (by have := h.lt; omega)).trans h.n1, (below_cells hb _ _ h.lt).trans h.f0, (below_cells hb _ _ h.lt).trans h.f1, (below_cells hb _ _ h.lt).trans h.f2, (below_cells hb _ _ h.lt).trans h.f3, Nat.lt_of_lt_of_le h.lt hb.size⟩

variable {A : Option Addr} {n : Nat} {l : List UInt8} {N : Nt}

theorem net_ok (h : BytesAt w A n l) (c : Nat) (hc : n ≤ c) (hn : n ≤ 800000) (hp : parseL l = .ok N) :
    Calls Try.prog 17 #[.slice A n c] w fun e w' => ∃ a1 n1 c1 a2 n2 c2, e = .returned (.tuple #[.agg #[.slice a1 n1 c1, .slice a2 n2 c2], .agg #[.int .i64 0, .int .i64 0, .int .i64 0, .int .i64 0]]) ∧ n1 = N.places.length ∧ n2 = N.trans.length ∧ NetAt w' (.slice a1 n1 c1) (.slice a2 n2 c2) N ∧ Below w.heap.size w w' := by
  refine (net_any h c hc hn).mono ?_
  rintro e w' ⟨v, rfl, hout, hb⟩
  rcases hout with ⟨er, p, h1, _, rfl⟩ | ⟨N', vp, vt, h1, h2, rfl⟩
  · rw [hp] at h1; cases h1
  · rw [hp] at h1
    injection h1 with h1
    subst h1
    have h3 := h2.at_
    obtain ⟨g1, l', g2, g3⟩ := h3
    obtain ⟨a1, c1, e1⟩ := RowAt.len g1
    obtain ⟨a2, c2, e2⟩ := RowAt.len g3.1
    have hl : l'.length = N.trans.length := by rw [← g2]; simp
    rw [hl] at e2
    subst e1 e2
    exact ⟨a1, _, c1, a2, _, c2, rfl, rfl, rfl, h2.at_, hb⟩

theorem net_bad (h : BytesAt w A n l) (c : Nat) (hc : n ≤ c) (hn : n ≤ 800000) {er : Int} {p : Nat} (hp : parseL l = .error (er, p)) :
    Calls Try.prog 17 #[.slice A n c] w fun e w' => e = .returned (.tuple #[.agg #[.slice none 0 0, .slice none 0 0], faultV er p (placeL (l.take p))]) ∧ p ≤ l.length ∧ Below w.heap.size w w' := by
  refine (net_any h c hc hn).mono ?_
  rintro e w' ⟨v, rfl, hout, hb⟩
  rcases hout with ⟨er', p', h1, h2, rfl⟩ | ⟨N', vp, vt, h1, h2, rfl⟩
  · rw [hp] at h1
    injection h1 with h1
    injection h1 with h1 h3
    subst h1 h3
    exact ⟨rfl, h2, hb⟩
  · rw [hp] at h1; cases h1
end
end Go.Proofs.Ytfiielibnnodkaa
