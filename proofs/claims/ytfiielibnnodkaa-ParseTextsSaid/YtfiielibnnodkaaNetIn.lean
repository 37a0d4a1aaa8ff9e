/-
  A net that came in reads as a net.
  Conditions: none beyond each theorem's own.
-/
import Derived.Test.YtfiielibnnodkaaRowAt
import Derived.ProofKit
import Derived.OpenShut
import Derived.Deep.Slices
import Derived.Deep.Fields
import Derived.ChangeSame
namespace Go.Proofs.Ytfiielibnnodkaa
open Go.RowKit Go.ChangeShapes Go.WideShapes Go.Deep Go.Joins
set_option linter.unusedVariables false
set_option maxRecDepth 100000

section
variable {H : Type} {enc : TypeId × Value → H} {w : World}

/-- a slice that came in, element by element -/
theorem row_in {α : Type} {f : α → List Value} {k : Nat} (hf : ∀ a, (f a).length = k) (hk : 0 < k) {T E : TypeId} (hT : Try.prog.underlying T = some (.slice E)) (hC : Try.prog.cellsOf E = k) {R : α → Prop} (inh : α)
    (dec : ∀ n cs x, DataW.trod enc Try.prog w 0 (fun _ => true) true n E cs = some x → ∃ a, cs = f a ∧ R a) {fuel : Nat} {v : Value} {x : DataW H × List MemPlace} (h : DataW.trod enc Try.prog w 0 (fun _ => true) true fuel T [v] = some x) :
    ∃ ls : List α, RowAt k w v ls.length (ls.flatMap f) ∧ ∀ a ∈ ls, R a := by
  rcases open_slice hT h with ⟨hcs, _⟩ | ⟨ad, len, cap, m, n, D, Pl, hcs, _, hl, hm, hmm, _, hi⟩
  · injection hcs with hcs
    subst hcs
    exact ⟨[], RowAt.nil _ _, fun a ha => by cases ha⟩
  · injection hcs with hcs
    subst hcs
    rw [hC] at hi
    have hd : ∀ i, ∃ a : α, i < len → (∀ j, j < k → w.cell? (ad.add (i * k + j)) = (f a)[j]?) ∧ R a := by
      intro i
      by_cases hlt : i < len
      · obtain ⟨cs', hc, ht⟩ := hi i (by rw [hmm]; simp; omega)
        obtain ⟨a, rfl, hR⟩ := dec _ _ _ ht
        obtain ⟨_, _, hat⟩ := World.cells?_some hc
        exact ⟨a, fun _ => ⟨fun j hj => by rw [← Go.Deep.add_add]; exact hat j hj, hR⟩⟩
      · exact ⟨inh, fun h => absurd h hlt⟩
    obtain ⟨g, hg⟩ : ∃ g : Nat → α, ∀ i, i < len → (∀ j, j < k → w.cell? (ad.add (i * k + j)) = (f (g i))[j]?) ∧ R (g i) := ⟨fun i => Classical.choose (hd i), fun i => Classical.choose_spec (hd i)⟩
    have el : ((List.range len).map g).length = len := by simp
    refine ⟨(List.range len).map g, ⟨flat_len hf _, some ad, cap, by rw [el], by rw [el]; exact hl, hm, ?_⟩, fun a ha => ?_⟩
    · by_cases h0 : len = 0
      · left; rw [el]; exact h0
      · right
        have hat0 := (hg 0 (by omega)).1 0 hk
        have hl0 : (f (g 0))[0]? = some ((f (g 0))[0]'(by rw [hf]; exact hk)) := List.getElem?_eq_getElem _
        rw [hl0] at hat0
        obtain ⟨b, off, spot⟩ := ad
        have hspot : spot = none := by simpa [Addr.add] using World.cell?_spot hat0
        subst hspot
        have hblk : b < w.heap.size := by
          have := World.block_lt_of_cell? w _ hat0
          simpa [Addr.add] using this
        refine ⟨b, off, rfl, hblk, fun j y hj => ?_⟩
        have hjl := lt_at hj
        rw [flat_len hf, el] at hjl
        have hq : j / k < len := Nat.div_lt_of_lt_mul (by rw [Nat.mul_comm]; exact hjl)
        have hr : j % k < k := Nat.mod_lt _ hk
        have hdm : j / k * k + j % k = j := by have := Nat.div_add_mod j k; rw [Nat.mul_comm] at this; exact this
        have hget : ((List.range len).map g)[j / k]? = some (g (j / k)) := by simp [hq]
        have e1 := flat_at hf ((List.range len).map g) (j / k) (j % k) _ hget hr
        rw [hdm, hj] at e1
        have e2 := (hg (j / k) hq).1 (j % k) hr
        rw [← e1, hdm, Go.WideShapes.add_plain] at e2
        exact e2
    · rw [List.mem_map] at ha
      obtain ⟨i, hi2, rfl⟩ := ha
      exact (hg i (by simpa using hi2)).2

theorem cellsInt : Try.prog.cellsOf 3 = 1 := by kernel_rfl
theorem cellsStr : Try.prog.cellsOf 9 = 1 := by kernel_rfl
theorem cellsArcs : Try.prog.cellsOf 38 = 1 := by kernel_rfl
theorem cellsArc : Try.prog.cellsOf 37 = 2 := by kernel_rfl
theorem cellsPlace : Try.prog.cellsOf 35 = 2 := by kernel_rfl
theorem cellsTrans : Try.prog.cellsOf 40 = 6 := by kernel_rfl

theorem arc_dec (n : Nat) (cs : List Value) (x : DataW H × List MemPlace) (h : DataW.trod enc Try.prog w 0 (fun _ => true) true n 37 cs = some x) : ∃ a, cs = arcL a ∧ True := by
  obtain ⟨xs, m, _, _, hl, hx, hg⟩ := DataW.trod_struct Try.underlying37 h
  have h0 : DataW.trod enc Try.prog w 0 (fun _ => true) true m 3 ((cs.drop 0).take (Try.prog.cellsOf 3)) = xs[0]? := hg 0 _ rfl
  have h1 : DataW.trod enc Try.prog w 0 (fun _ => true) true m 3 ((cs.drop 1).take (Try.prog.cellsOf 3)) = xs[1]? := hg 1 _ rfl
  rw [cellsArc] at hl
  match cs, hl with
  | [c0, c1], _ =>
    simp only [cellsInt, List.drop_zero, List.take_succ_cons, List.take_zero, List.drop_succ_cons] at h0 h1
    rw [List.getElem?_eq_getElem (by rw [hx]; simp)] at h0 h1
    obtain ⟨a0, e0, _, _⟩ := DataW.trod_int Try.underlying3 h0
    obtain ⟨a1, e1, _, _⟩ := DataW.trod_int Try.underlying3 h1
    simp at e0 e1
    subst e0 e1
    exact ⟨(a0, a1), rfl, trivial⟩

theorem place_dec (n : Nat) (cs : List Value) (x : DataW H × List MemPlace) (h : DataW.trod enc Try.prog w 0 (fun _ => true) true n 35 cs = some x) : ∃ a, cs = plL a ∧ True := by
  obtain ⟨xs, m, _, _, hl, hx, hg⟩ := DataW.trod_struct Try.underlying35 h
  have h0 : DataW.trod enc Try.prog w 0 (fun _ => true) true m 9 ((cs.drop 0).take (Try.prog.cellsOf 9)) = xs[0]? := hg 0 _ rfl
  have h1 : DataW.trod enc Try.prog w 0 (fun _ => true) true m 3 ((cs.drop 1).take (Try.prog.cellsOf 3)) = xs[1]? := hg 1 _ rfl
  rw [cellsPlace] at hl
  match cs, hl with
  | [c0, c1], _ =>
    simp only [cellsInt, cellsStr, List.drop_zero, List.take_succ_cons, List.take_zero, List.drop_succ_cons] at h0 h1
    rw [List.getElem?_eq_getElem (by rw [hx]; simp)] at h0 h1
    obtain ⟨a0, e0, _, _⟩ := DataW.trod_string Try.underlying9 h0
    obtain ⟨a1, e1, _, _⟩ := DataW.trod_int Try.underlying3 h1
    simp at e0 e1
    subst e0 e1
    exact ⟨⟨a0, a1⟩, rfl, trivial⟩

theorem arcs_in {fuel : Nat} {v : Value} {x : DataW H × List MemPlace} (h : DataW.trod enc Try.prog w 0 (fun _ => true) true fuel 38 [v] = some x) : ∃ l, ArcsAt w v l := by
  obtain ⟨l, h1, _⟩ := row_in arcL_len (by omega) Try.underlying38 cellsArc (0, 0) (fun n cs x => arc_dec n cs x) h
  exact ⟨l, h1⟩

theorem trans_dec (n : Nat) (cs : List Value) (x : DataW H × List MemPlace) (h : DataW.trod enc Try.prog w 0 (fun _ => true) true n 40 cs = some x) :
    ∃ a, cs = trL a ∧ (ArcsAt w a.2.1 a.1.inn ∧ ArcsAt w a.2.2.1 a.1.nt ∧ ArcsAt w a.2.2.2 a.1.out) := by
  obtain ⟨xs, m, _, _, hl, hx, hg⟩ := DataW.trod_struct Try.underlying40 h
  have h0 : DataW.trod enc Try.prog w 0 (fun _ => true) true m 9 ((cs.drop 0).take (Try.prog.cellsOf 9)) = xs[0]? := hg 0 _ rfl
  have h1 : DataW.trod enc Try.prog w 0 (fun _ => true) true m 3 ((cs.drop 1).take (Try.prog.cellsOf 3)) = xs[1]? := hg 1 _ rfl
  have h2 : DataW.trod enc Try.prog w 0 (fun _ => true) true m 3 ((cs.drop 2).take (Try.prog.cellsOf 3)) = xs[2]? := hg 2 _ rfl
  have h3 : DataW.trod enc Try.prog w 0 (fun _ => true) true m 38 ((cs.drop 3).take (Try.prog.cellsOf 38)) = xs[3]? := hg 3 _ rfl
  have h4 : DataW.trod enc Try.prog w 0 (fun _ => true) true m 38 ((cs.drop 4).take (Try.prog.cellsOf 38)) = xs[4]? := hg 4 _ rfl
  have h5 : DataW.trod enc Try.prog w 0 (fun _ => true) true m 38 ((cs.drop 5).take (Try.prog.cellsOf 38)) = xs[5]? := hg 5 _ rfl
  rw [cellsTrans] at hl
  match cs, hl with
  | [c0, c1, c2, c3, c4, c5], _ =>
    simp only [cellsInt, cellsStr, cellsArcs, List.drop_zero, List.take_succ_cons, List.take_zero, List.drop_succ_cons] at h0 h1 h2 h3 h4 h5
    rw [List.getElem?_eq_getElem (by rw [hx]; simp)] at h0 h1 h2 h3 h4 h5
    obtain ⟨a0, e0, _, _⟩ := DataW.trod_string Try.underlying9 h0
    obtain ⟨a1, e1, _, _⟩ := DataW.trod_int Try.underlying3 h1
    obtain ⟨a2, e2, _, _⟩ := DataW.trod_int Try.underlying3 h2
    obtain ⟨l3, g3⟩ := arcs_in h3
    obtain ⟨l4, g4⟩ := arcs_in h4
    obtain ⟨l5, g5⟩ := arcs_in h5
    simp at e0 e1 e2
    subst e0 e1 e2
    exact ⟨(⟨a0, a1, a2, l3, l4, l5⟩, c3, c4, c5), rfl, g3, g4, g5⟩

theorem net_in {n m : Nat} {vp vt : Value} {x y : DataW H × List MemPlace} (hp : DataW.trod enc Try.prog w 0 (fun _ => true) true n 27 [vp] = some x) (ht : DataW.trod enc Try.prog w 0 (fun _ => true) true m 28 [vt] = some y) :
    ∃ (N : Nt) (ap at_ : Option Addr) (cp ct : Nat), vp = .slice ap N.places.length cp ∧ vt = .slice at_ N.trans.length ct ∧ NetAt w vp vt N := by
  obtain ⟨ls, h1, _⟩ := row_in plL_len (by omega) Try.underlying27 cellsPlace ⟨⟨#[]⟩, 0⟩ (fun n cs x => place_dec n cs x) hp
  obtain ⟨lt, h2, h3⟩ := row_in trL_len (by omega) Try.underlying28 cellsTrans (⟨⟨#[]⟩, 0, 0, [], [], []⟩, .bool true, .bool true, .bool true) (fun n cs x => trans_dec n cs x) ht
  obtain ⟨ap, cp, e1⟩ := h1.len
  obtain ⟨at_, ct, e2⟩ := h2.len
  exact ⟨⟨ls, lt.map (·.1)⟩, ap, at_, cp, ct, e1, by rw [List.length_map]; exact e2, h1, lt, rfl, h2, h3⟩

end

end Go.Proofs.Ytfiielibnnodkaa
