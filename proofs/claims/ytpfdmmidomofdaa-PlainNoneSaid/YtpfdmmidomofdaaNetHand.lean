/-
  Nets laid by hand: cells one by one; what Check comes to there.
  Conditions: none beyond each theorem's own.
-/
import Derived.Test.YtpfdmmidomofdaaNetE
namespace Go.Proofs.Ytpfdmmidomofdaa
open Go.RowKit
set_option linter.unusedVariables false

/-- the cells of a block, from k on -/
def CellsAre (w : World) (b : Nat) : Nat → List Value → Prop
  | _, [] => True
  | k, x :: r => w.cell? ⟨b, k, none⟩ = some x ∧ CellsAre w b (k + 1) r

theorem CellsAre.at_ {w : World} {b : Nat} {xs : List Value} : ∀ {k : Nat}, CellsAre w b k xs → ∀ j x, xs[j]? = some x → w.cell? ⟨b, k + j, none⟩ = some x := by
  induction xs with
  | nil => intro k _ j x hj; simp at hj
  | cons y r ih =>
    intro k h j x hj
    cases j with
    | zero => simp at hj; subst hj; exact h.1
    | succ j => have := ih h.2 j x (by simpa using hj); rwa [show k + 1 + j = k + (j + 1) by omega] at this

theorem CellsAre.below {W w1 : World} {b : Nat} (hb : Below W.heap.size W w1) (hlt : b < W.heap.size) {xs : List Value} : ∀ {k : Nat}, CellsAre W b k xs → CellsAre w1 b k xs := by
  induction xs with
  | nil => intro k _; trivial
  | cons y r ih => intro k h; exact ⟨(below_cells hb b k hlt).trans h.1, ih h.2⟩

theorem CellsAre.row {size n cap b : Nat} {w : World} {xs : List Value} (h : CellsAre w b 0 xs) (hb : b < w.heap.size) (hl : xs.length = n * size) (h1 : n ≤ cap) (h2 : cap ≤ 1000000) : RowAt size w (.slice (some ⟨b, 0, none⟩) n cap) n xs :=
  ⟨hl, _, cap, rfl, h1, by unfold maxLen; omega, .inr ⟨b, 0, rfl, hb, fun j x hj => h.at_ j x hj⟩⟩

theorem check_at {w : World} {n : Nt} {ap at_ : Option Addr} {cp ct np nt : Nat} {e : Int} (hnp : np = n.places.length) (hnt : nt = n.trans.length) (h : NetAt w (.slice ap np cp) (.slice at_ nt ct) n) (hs : ∀ s ∈ n.names, s.size ≤ 1000) (he : checkN n = e) :
    Calls Try.prog 33 #[.agg #[.slice ap np cp, .slice at_ nt ct]] w fun e' w' => e' = .returned (.int .i64 e) ∧ Below w.heap.size w w' := by
  subst hnp hnt he
  exact check_any h (fun s hm => by have := hs s hm; omega)

/-- a net whose transitions are laid one by one -/
theorem netAt_mk {w : World} {n : Nt} {vp vt : Value} (hp : PlsAt w vp n.places) (l : List (Tr × Value × Value × Value)) (hl : l.map (·.1) = n.trans) (ht : RowAt 6 w vt l.length (l.flatMap trL)) (ha : ∀ x ∈ l, ArcsAt w x.2.1 x.1.inn ∧ ArcsAt w x.2.2.1 x.1.nt ∧ ArcsAt w x.2.2.2 x.1.out) : NetAt w vp vt n :=
  ⟨hp, l, hl, ht, ha⟩

theorem arcsAt_nil (w : World) : ArcsAt w (.slice none 0 0) [] := RowAt.nil _ _
end Go.Proofs.Ytpfdmmidomofdaa
