/-
  A slice of keys that came in reads as a list of keys.
  Conditions: none beyond the theorem's own.
-/
import Derived.Test.YthpcaamfcmjnmaaOrdersA
import Derived.ProofKit
import Derived.OpenShut
namespace Go.Proofs.Ythpcaamfcmjnmaa
open Go.RowKit Go.ChangeShapes Go.WideShapes Go.Deep Go.Joins

theorem cellsKey : Try.prog.cellsOf 30 = 4 := by kernel_rfl
theorem cellsInt : Try.prog.cellsOf 3 = 1 := by kernel_rfl

theorem key_of_cells {H : Type} {enc : TypeId × Value → H} {w : World} {base : Nat} {spare : Nat → Bool} {held : Bool} {n : Nat} {cs : List Value} {x : DataW H × List MemPlace} (h : DataW.trod enc Try.prog w base spare held n 30 cs = some x) :
    ∃ k : Key4, cs = kc k := by
  obtain ⟨y0, y1, y2, y3, m, _, hl, h0, h1, h2, h3⟩ := trod_struct4 Try.underlying30 h
  rw [cellsKey] at hl
  match cs, hl with
  | [c0, c1, c2, c3], _ =>
    simp only [cellsInt, List.drop_zero, List.take_succ_cons, List.take_zero, List.drop_succ_cons] at h0 h1 h2 h3
    obtain ⟨a0, e0, _, _⟩ := DataW.trod_int Try.underlying3 h0
    obtain ⟨a1, e1, _, _⟩ := DataW.trod_int Try.underlying3 h1
    obtain ⟨a2, e2, _, _⟩ := DataW.trod_int Try.underlying3 h2
    obtain ⟨a3, e3, _, _⟩ := DataW.trod_int Try.underlying3 h3
    simp at e0 e1 e2 e3
    subst e0 e1 e2 e3
    exact ⟨(a0, a1, a2, a3), rfl⟩

theorem keys_in {H : Type} {enc : TypeId × Value → H} {w : World} {a : Option Addr} {len cap : Nat} {d : DataW H} {p : List MemPlace}
    (h : DataW.Trod enc Try.prog w 0 (fun _ => true) true 22 (.slice a len cap) d p) : ∃ ls : List Key4, len = ls.length ∧ ReadsK w a ls ∧ len ≤ 9223372036854775807 := by
  obtain ⟨fuel, hf⟩ := h
  rcases open_slice Try.underlying22 hf with ⟨hcs, _⟩ | ⟨ad, l, c, m, n, D, Pl, hcs, _, hl, hm, hmm, _, hi⟩
  · simp [Value.cells] at hcs
    obtain ⟨rfl, rfl, rfl⟩ := hcs
    exact ⟨[], rfl, .inl rfl, by omega⟩
  · simp [Value.cells] at hcs
    obtain ⟨rfl, rfl, rfl⟩ := hcs
    rw [cellsKey] at hi
    have hk : ∀ i, ∃ k : Key4, i < len → ∀ j, j < 4 → w.cell? (ad.add (i * 4 + j)) = (kc k)[j]? := by
      intro i
      by_cases hlt : i < len
      · obtain ⟨cs', hc, ht⟩ := hi i (by rw [hmm]; simp; omega)
        obtain ⟨k, rfl⟩ := key_of_cells ht
        obtain ⟨_, _, hat⟩ := World.cells?_some hc
        exact ⟨k, fun _ j hj => by rw [← Go.Deep.add_add]; exact hat j hj⟩
      · exact ⟨(0, 0, 0, 0), fun h => absurd h hlt⟩
    let f : Nat → Key4 := fun i => Classical.choose (hk i)
    have hf2 : ∀ i, i < len → ∀ j, j < 4 → w.cell? (ad.add (i * 4 + j)) = (kc (f i))[j]? := fun i => Classical.choose_spec (hk i)
    refine ⟨(List.range len).map f, by simp, ?_, by unfold maxLen at hm; omega⟩
    by_cases h0 : len = 0
    · left; subst h0; rfl
    · right
      have hat0 := hf2 0 (by omega) 0 (by omega)
      obtain ⟨b, off, spot⟩ := ad
      have hs0 : w.cell? ((⟨b, off, spot⟩ : Addr).add (0 * 4 + 0)) = some (.int .i64 (f 0).1) := hat0
      have hspot : spot = none := by simpa [Addr.add] using World.cell?_spot hs0
      subst hspot
      have hblk : b < w.heap.size := by
        have := World.block_lt_of_cell? w _ hs0
        simpa [Addr.add] using this
      refine ⟨b, off, rfl, hblk, fun i hi2 j hj => ?_⟩
      have hi3 : i < len := by simpa using hi2
      have e : at4 ((List.range len).map f) i = f i := by simp [at4, hi3]
      rw [e, ← hf2 i hi3 j hj]
      congr 1
      rw [Go.WideShapes.add_plain]

end Go.Proofs.Ythpcaamfcmjnmaa
