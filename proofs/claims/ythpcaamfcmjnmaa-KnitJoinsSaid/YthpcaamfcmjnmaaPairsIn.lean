/-
  A slice of pairs of integers that came in reads as a list of pairs.
  Conditions: none beyond each theorem's own.
-/
import Derived.Test.YthpcaamfcmjnmaaKept
import Derived.ProofKit
import Derived.OpenShut
import Derived.Deep.Slices
import Derived.Deep.Fields
import Derived.ChangeSame
namespace Go.Proofs.Ythpcaamfcmjnmaa
open Go.RowKit Go.ChangeShapes Go.WideShapes Go.Deep Go.Joins

/-- the pair at a place -/
abbrev at2 (ls : List (Int × Int)) (i : Nat) : Int × Int := ls.getD i (0, 0)

/-- what is known of the cells of a slice of pairs -/
def ReadsP (q : IntKind) (w : World) (a : Option Addr) (ls : List (Int × Int)) : Prop :=
  ls = [] ∨ ∃ b off, a = some ⟨b, off, none⟩ ∧ b < w.heap.size ∧ ∀ i, i < ls.length →
    w.cell? ⟨b, off + i * 2, none⟩ = some (.int q (at2 ls i).1) ∧ w.cell? ⟨b, off + i * 2 + 1, none⟩ = some (.int q (at2 ls i).2) ∧ (Lit.int q (at2 ls i).1).wf = true ∧ (Lit.int q (at2 ls i).2).wf = true

theorem ReadsP.place {q : IntKind} {w : World} {a : Option Addr} {ls : List (Int × Int)} (h : ReadsP q w a ls) (i : Nat) (hi : i < ls.length) :
    ∃ b off, a = some ⟨b, off, none⟩ ∧ b < w.heap.size ∧ ∃ x y, at2 ls i = (x, y) ∧ w.cell? ⟨b, off + i * 2, none⟩ = some (.int q x) ∧ w.cell? ⟨b, off + i * 2 + 1, none⟩ = some (.int q y) ∧ (Lit.int q x).wf = true ∧ (Lit.int q y).wf = true := by
  rcases h with rfl | ⟨b, off, rfl, hb, hc⟩
  · simp at hi
  · exact ⟨b, off, rfl, hb, _, _, rfl, hc i hi⟩

theorem pairs_in {H : Type} {enc : TypeId × Value → H} {w : World} {a : Option Addr} {len cap : Nat} {d : DataW H} {p : List MemPlace} (q : IntKind) {T A E : TypeId} (hT : Try.prog.underlying T = some (.slice A)) (hA : Try.prog.underlying A = some (.array 2 E)) (hE : Try.prog.underlying E = some (.int q))
    (cA : Try.prog.cellsOf A = 2) (cE : Try.prog.cellsOf E = 1)
    (h : DataW.Trod enc Try.prog w 0 (fun _ => true) true T (.slice a len cap) d p) : ∃ ls : List (Int × Int), len = ls.length ∧ ReadsP q w a ls ∧ len ≤ 9223372036854775807 := by
  obtain ⟨fuel, hf⟩ := h
  rcases open_slice hT hf with ⟨hcs, _⟩ | ⟨ad, l, c, m, n, D, Pl, hcs, _, hl, hm, hmm, _, hi⟩
  · simp [Value.cells] at hcs
    obtain ⟨rfl, rfl, rfl⟩ := hcs
    exact ⟨[], rfl, .inl rfl, by omega⟩
  · simp [Value.cells] at hcs
    obtain ⟨rfl, rfl, rfl⟩ := hcs
    rw [cA] at hi
    have hk : ∀ i, ∃ k : Int × Int, i < len → w.cell? (ad.add (i * 2)) = some (.int q k.1) ∧ w.cell? (ad.add (i * 2 + 1)) = some (.int q k.2) ∧ (Lit.int q k.1).wf = true ∧ (Lit.int q k.2).wf = true := by
      intro i
      by_cases hlt : i < len
      · obtain ⟨cs', hc, ht⟩ := hi i (by rw [hmm]; simp; omega)
        obtain ⟨xs, m', _, _, hl2, hx, hel⟩ := DataW.trod_array hA ht
        rw [cA] at hl2
        rw [cE] at hel
        have e0 := hel 0 (by omega)
        have e1 := hel 1 (by omega)
        match cs', hl2 with
        | [c0, c1], _ =>
          simp only [List.drop_zero, List.take_succ_cons, List.take_zero, List.drop_succ_cons, Nat.zero_mul, Nat.one_mul] at e0 e1
          rw [List.getElem?_eq_getElem (by omega)] at e0 e1
          obtain ⟨a0, f0, _, w0⟩ := DataW.trod_int hE e0
          obtain ⟨a1, f1, _, w1⟩ := DataW.trod_int hE e1
          simp at f0 f1
          subst f0 f1
          obtain ⟨_, _, hat⟩ := World.cells?_some hc
          refine ⟨(a0, a1), fun _ => ⟨?_, ?_, w0, w1⟩⟩
          · have := hat 0 (by omega)
            rw [Go.Deep.add_add] at this
            exact this
          · have := hat 1 (by omega)
            rw [Go.Deep.add_add] at this
            exact this
      · exact ⟨(0, 0), fun h => absurd h hlt⟩
    obtain ⟨f, hf2⟩ : ∃ f : Nat → Int × Int, ∀ i, i < len → w.cell? (ad.add (i * 2)) = some (.int q (f i).1) ∧ w.cell? (ad.add (i * 2 + 1)) = some (.int q (f i).2) ∧ (Lit.int q (f i).1).wf = true ∧ (Lit.int q (f i).2).wf = true :=
      ⟨fun i => Classical.choose (hk i), fun i => Classical.choose_spec (hk i)⟩
    refine ⟨(List.range len).map f, by simp, ?_, by unfold maxLen at hm; omega⟩
    by_cases h0 : len = 0
    · left; subst h0; rfl
    · right
      have hat0 := (hf2 0 (by omega)).1
      obtain ⟨b, off, spot⟩ := ad
      have hspot : spot = none := by simpa [Addr.add] using World.cell?_spot hat0
      subst hspot
      have hblk : b < w.heap.size := by
        have := World.block_lt_of_cell? w _ hat0
        simpa [Addr.add] using this
      refine ⟨b, off, rfl, hblk, fun i hi2 => ?_⟩
      have hi3 : i < len := by simpa using hi2
      have e : at2 ((List.range len).map f) i = f i := by simp [at2, hi3]
      rw [e]
      have h4 := hf2 i hi3
      rw [Go.WideShapes.add_plain, Go.WideShapes.add_plain] at h4
      exact h4

end Go.Proofs.Ythpcaamfcmjnmaa
