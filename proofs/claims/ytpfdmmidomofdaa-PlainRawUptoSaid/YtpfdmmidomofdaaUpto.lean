/-
  What a bound on all that came in gives: a net's names are no longer than it.
  Conditions: none beyond each theorem's own.
-/
import Derived.Test.YtpfdmmidomofdaaNearIn
namespace Go.Proofs.Ytpfdmmidomofdaa.bulks

theorem one_le {H : Type} (d : DataW H) : 1 ≤ Rows.uptoBulk d := by
  cases d with
  | lit l => cases l <;> simp [Rows.uptoBulk]
  | nil => simp [Rows.uptoBulk]
  | ptr d => simp [Rows.uptoBulk]
  | slice elems spare => simp [Rows.uptoBulk]
  | agg parts => simp [Rows.uptoBulk]
  | iface t d => simp [Rows.uptoBulk]
  | map entries => simp [Rows.uptoBulk]
  | held h => simp [Rows.uptoBulk]
theorem part_le {H : Type} {d : DataW H} {l : List (DataW H)} (h : d ∈ l) : Rows.uptoBulk d ≤ Rows.uptoBulkAll l := by
  induction l with
  | nil => cases h
  | cons x r ih =>
    simp only [Rows.uptoBulkAll]
    cases List.mem_cons.1 h with
    | inl e => subst e; omega
    | inr e => have := ih e; omega
theorem slice_elems {H : Type} (elems spare : List (DataW H)) : Rows.uptoBulkAll elems + 1 ≤ Rows.uptoBulk (.slice elems spare) := by
  simp only [Rows.uptoBulk]
  omega
theorem agg_elems {H : Type} (parts : List (DataW H)) : Rows.uptoBulkAll parts + 1 ≤ Rows.uptoBulk (.agg parts) := by
  simp only [Rows.uptoBulk]
  omega
theorem string_eq {H : Type} (bytes : List UInt8) : Rows.uptoBulk (DataW.lit (H := H) (.string bytes)) = bytes.length + 1 := by
  simp [Rows.uptoBulk]
theorem bound {H : Type} {l : List (DataW H)} (hk : Rows.uptoSmall H l = true) : Rows.uptoBulkAll l ≤ 1048576 := of_decide_eq_true hk
end Go.Proofs.Ytpfdmmidomofdaa.bulks

namespace Go.Proofs.Ytpfdmmidomofdaa
open Go.RowKit Go.ChangeShapes Go.WideShapes Go.Deep Go.Joins
set_option linter.unusedVariables false
set_option maxRecDepth 100000

section
variable {H : Type} {enc : TypeId × Value → H} {w : World}

theorem agg_name {x : DataW H × List MemPlace} {xs : List (DataW H × List MemPlace)} {a0 : ByteArray} (hx : x = (.agg (xs.map (·.1)), (xs.map (·.2)).flatten)) (h0 : 0 < xs.length) (he : xs[0]'h0 = (.lit (.string a0.data.toList), [])) : a0.size ≤ Rows.uptoBulk x.1 := by
  rw [hx]
  show a0.size ≤ Rows.uptoBulk (DataW.agg (xs.map (·.1)))
  have h1 := bulks.agg_elems (xs.map (·.1))
  have h2 : Rows.uptoBulk (xs[0]'h0).1 ≤ Rows.uptoBulkAll (xs.map (·.1)) := bulks.part_le (List.mem_map.2 ⟨xs[0]'h0, List.getElem_mem h0, rfl⟩)
  rw [he] at h2
  have h3 : Rows.uptoBulk (DataW.lit (H := H) (.string a0.data.toList)) = a0.data.toList.length + 1 := bulks.string_eq _
  have h4 : a0.data.toList.length = a0.size := by rw [Array.length_toList]; rfl
  have h5 : Rows.uptoBulk (DataW.lit (H := H) (.string a0.data.toList)) ≤ Rows.uptoBulkAll (xs.map (·.1)) := h2
  omega

/-- a slice that came in, element by element -/
theorem row_bulk {α : Type} {f : α → List Value} {k : Nat} (hf : ∀ a, (f a).length = k) (hk : 0 < k) {T E : TypeId} (hT : Try.prog.underlying T = some (.slice E)) (hC : Try.prog.cellsOf E = k) {R : α → DataW H → Prop} (inh : α)
    (dec : ∀ n cs x, DataW.trod enc Try.prog w 0 (fun _ => true) true n E cs = some x → ∃ a, cs = f a ∧ R a x.1) {fuel : Nat} {v : Value} {x : DataW H × List MemPlace} (h : DataW.trod enc Try.prog w 0 (fun _ => true) true fuel T [v] = some x) :
    ∃ ls : List α, RowAt k w v ls.length (ls.flatMap f) ∧ ∀ a ∈ ls, ∃ d, Rows.uptoBulk d ≤ Rows.uptoBulk x.1 ∧ R a d := by
  rcases open_slice hT h with ⟨hcs, _⟩ | ⟨ad, len, cap, m, n, D, Pl, hcs, _, hl, hm, hmm, hx, hi⟩
  · injection hcs with hcs
    subst hcs
    exact ⟨[], RowAt.nil _ _, fun a ha => by cases ha⟩
  · injection hcs with hcs
    subst hcs
    rw [hC] at hi
    have hd : ∀ i, ∃ a : α, i < len → (∀ j, j < k → w.cell? (ad.add (i * k + j)) = (f a)[j]?) ∧ R a (D i) := by
      intro i
      by_cases hlt : i < len
      · obtain ⟨cs', hc, ht⟩ := hi i (by rw [hmm]; simp; omega)
        obtain ⟨a, rfl, hR⟩ := dec _ _ _ ht
        obtain ⟨_, _, hat⟩ := World.cells?_some hc
        exact ⟨a, fun _ => ⟨fun j hj => by rw [← Go.Deep.add_add]; exact hat j hj, hR⟩⟩
      · exact ⟨inh, fun h => absurd h hlt⟩
    obtain ⟨g, hg⟩ : ∃ g : Nat → α, ∀ i, i < len → (∀ j, j < k → w.cell? (ad.add (i * k + j)) = (f (g i))[j]?) ∧ R (g i) (D i) := ⟨fun i => Classical.choose (hd i), fun i => Classical.choose_spec (hd i)⟩
    have el : ((List.range len).map g).length = len := by simp
    refine ⟨(List.range len).map g, ⟨flat_len hf _, some ad, cap, by rw [el], by rw [el]; exact hl, hm, ?_⟩, fun a ha => ?_⟩
    · by_cases h0 : len = 0
      · left; rw [el]; exact h0
      · right
        have hat0 := (hg 0 (by omega)).1 0 hk
        have hl0 : (f (g 0))[0]? = some ((f (g 0))[0]'(by rw [hf]; exact hk)) := List.getElem?_eq_getElem _
        rw [hl0] at hat0
        obtain ⟨b, off, spot⟩ := ad
        have hspot : spot = none := by simpa [Addr.add] using World.cell?_spot hat0
        subst hspot
        have hblk : b < w.heap.size := by
          have := World.block_lt_of_cell? w _ hat0
          simpa [Addr.add] using this
        refine ⟨b, off, rfl, hblk, fun j y hj => ?_⟩
        have hjl := lt_at hj
        rw [flat_len hf, el] at hjl
        have hq : j / k < len := Nat.div_lt_of_lt_mul (by rw [Nat.mul_comm]; exact hjl)
        have hr : j % k < k := Nat.mod_lt _ hk
        have hdm : j / k * k + j % k = j := by have := Nat.div_add_mod j k; rw [Nat.mul_comm] at this; exact this
        have hget : ((List.range len).map g)[j / k]? = some (g (j / k)) := by simp [hq]
        have e1 := flat_at hf ((List.range len).map g) (j / k) (j % k) _ hget hr
        rw [hdm, hj] at e1
        have e2 := (hg (j / k) hq).1 (j % k) hr
        rw [← e1, hdm, Go.WideShapes.add_plain] at e2
        exact e2
    · rw [List.mem_map] at ha
      obtain ⟨i, hi2, rfl⟩ := ha
      have hil : i < len := by simpa using hi2
      refine ⟨D i, ?_, (hg i hil).2⟩
      have h1 : Rows.uptoBulk (D i) ≤ Rows.uptoBulkAll ((List.range len).map D) := bulks.part_le (List.mem_map.2 ⟨i, by simpa using hil, rfl⟩)
      have h2 := bulks.slice_elems ((List.range len).map D) ((List.range (m - len)).map fun j => D (len + j))
      rw [hx]
      show Rows.uptoBulk (D i) ≤ Rows.uptoBulk (DataW.slice ((List.range len).map D) ((List.range (m - len)).map fun j => D (len + j)))
      omega

theorem place_bulk (n : Nat) (cs : List Value) (x : DataW H × List MemPlace) (h : DataW.trod enc Try.prog w 0 (fun _ => true) true n 50 cs = some x) : ∃ a, cs = plL a ∧ a.name.size ≤ Rows.uptoBulk x.1 := by
  obtain ⟨xs, m, _, hxe, hl, hx, hg⟩ := DataW.trod_struct Try.underlying50 h
  have h0 : DataW.trod enc Try.prog w 0 (fun _ => true) true m 9 ((cs.drop 0).take (Try.prog.cellsOf 9)) = xs[0]? := hg 0 _ rfl
  have h1 : DataW.trod enc Try.prog w 0 (fun _ => true) true m 3 ((cs.drop 1).take (Try.prog.cellsOf 3)) = xs[1]? := hg 1 _ rfl
  rw [cellsPlace] at hl
  match cs, hl with
  | [c0, c1], _ =>
    simp only [cellsInt, cellsStr, List.drop_zero, List.take_succ_cons, List.take_zero, List.drop_succ_cons] at h0 h1
    rw [List.getElem?_eq_getElem (by rw [hx]; simp)] at h0 h1
    obtain ⟨a0, e0, ex0, _⟩ := DataW.trod_string Try.underlying9 h0
    obtain ⟨a1, e1, _, _⟩ := DataW.trod_int Try.underlying3 h1
    simp at e0 e1
    subst e0 e1
    refine ⟨⟨a0, a1⟩, rfl, ?_⟩
    exact agg_name hxe (by rw [hx]; simp) ex0

theorem trans_bulk (n : Nat) (cs : List Value) (x : DataW H × List MemPlace) (h : DataW.trod enc Try.prog w 0 (fun _ => true) true n 46 cs = some x) :
    ∃ a, cs = trL a ∧ (ArcsAt w a.2.1 a.1.inn ∧ ArcsAt w a.2.2.1 a.1.nt ∧ ArcsAt w a.2.2.2 a.1.out) ∧ a.1.name.size ≤ Rows.uptoBulk x.1 := by
  obtain ⟨xs, m, _, hxe, hl, hx, hg⟩ := DataW.trod_struct Try.underlying46 h
  have h0 : DataW.trod enc Try.prog w 0 (fun _ => true) true m 9 ((cs.drop 0).take (Try.prog.cellsOf 9)) = xs[0]? := hg 0 _ rfl
  have h1 : DataW.trod enc Try.prog w 0 (fun _ => true) true m 3 ((cs.drop 1).take (Try.prog.cellsOf 3)) = xs[1]? := hg 1 _ rfl
  have h2 : DataW.trod enc Try.prog w 0 (fun _ => true) true m 3 ((cs.drop 2).take (Try.prog.cellsOf 3)) = xs[2]? := hg 2 _ rfl
  have h3 : DataW.trod enc Try.prog w 0 (fun _ => true) true m 44 ((cs.drop 3).take (Try.prog.cellsOf 44)) = xs[3]? := hg 3 _ rfl
  have h4 : DataW.trod enc Try.prog w 0 (fun _ => true) true m 44 ((cs.drop 4).take (Try.prog.cellsOf 44)) = xs[4]? := hg 4 _ rfl
  have h5 : DataW.trod enc Try.prog w 0 (fun _ => true) true m 44 ((cs.drop 5).take (Try.prog.cellsOf 44)) = xs[5]? := hg 5 _ rfl
  rw [cellsTrans] at hl
  match cs, hl with
  | [c0, c1, c2, c3, c4, c5], _ =>
    simp only [cellsInt, cellsStr, cellsArcs, List.drop_zero, List.take_succ_cons, List.take_zero, List.drop_succ_cons] at h0 h1 h2 h3 h4 h5
    rw [List.getElem?_eq_getElem (by rw [hx]; simp)] at h0 h1 h2 h3 h4 h5
    obtain ⟨a0, e0, ex0, _⟩ := DataW.trod_string Try.underlying9 h0
    obtain ⟨a1, e1, _, _⟩ := DataW.trod_int Try.underlying3 h1
    obtain ⟨a2, e2, _, _⟩ := DataW.trod_int Try.underlying3 h2
    obtain ⟨l3, g3⟩ := arcs_in h3
    obtain ⟨l4, g4⟩ := arcs_in h4
    obtain ⟨l5, g5⟩ := arcs_in h5
    simp at e0 e1 e2
    subst e0 e1 e2
    exact ⟨(⟨a0, a1, a2, l3, l4, l5⟩, c3, c4, c5), rfl, ⟨g3, g4, g5⟩, agg_name hxe (by rw [hx]; simp) ex0⟩

theorem net_bulk {n m : Nat} {vp vt : Value} {x y : DataW H × List MemPlace} (hp : DataW.trod enc Try.prog w 0 (fun _ => true) true n 28 [vp] = some x) (ht : DataW.trod enc Try.prog w 0 (fun _ => true) true m 29 [vt] = some y) :
    ∃ (N : Nt) (ap at_ : Option Addr) (cp ct : Nat), vp = .slice ap N.places.length cp ∧ vt = .slice at_ N.trans.length ct ∧ NetAt w vp vt N ∧ ∀ s ∈ N.names, s.size ≤ Rows.uptoBulk x.1 + Rows.uptoBulk y.1 := by
  obtain ⟨ls, h1, g1⟩ := row_bulk (R := fun a d => a.name.size ≤ Rows.uptoBulk d) plL_len (by omega) Try.underlying28 cellsPlace ⟨⟨#[]⟩, 0⟩ (fun n cs x => place_bulk n cs x) hp
  obtain ⟨lt, h2, h3⟩ := row_bulk (R := fun a d => (ArcsAt w a.2.1 a.1.inn ∧ ArcsAt w a.2.2.1 a.1.nt ∧ ArcsAt w a.2.2.2 a.1.out) ∧ a.1.name.size ≤ Rows.uptoBulk d) trL_len (by omega) Try.underlying29 cellsTrans (⟨⟨#[]⟩, 0, 0, [], [], []⟩, .bool true, .bool true, .bool true) (fun n cs x => trans_bulk n cs x) ht
  obtain ⟨ap, cp, e1⟩ := h1.len
  obtain ⟨at_, ct, e2⟩ := h2.len
  refine ⟨⟨ls, lt.map (·.1)⟩, ap, at_, cp, ct, e1, by rw [List.length_map]; exact e2, ⟨h1, lt, rfl, h2, fun a ha => ?_⟩, fun s hs => ?_⟩
  · obtain ⟨d, _, hR, _⟩ := h3 a ha
    exact hR
  · unfold Nt.names at hs
    rw [List.mem_append, List.mem_map, List.mem_map] at hs
    rcases hs with ⟨p, hp, rfl⟩ | ⟨t, htt, rfl⟩
    · obtain ⟨d, hd, hR⟩ := g1 p hp
      omega
    · rw [List.mem_map] at htt
      obtain ⟨a, ha, rfl⟩ := htt
      obtain ⟨d, hd, _, hR⟩ := h3 a ha
      omega
end
end Go.Proofs.Ytpfdmmidomofdaa
