/-
  A net of the call's own with its box: a cell of it stored.
  Conditions: none beyond each theorem's own.
-/
import Derived.Test.YtpllpofoclijlaaNearIn
import Derived.Test.YtpllpofoclijlaaMakeW
namespace Go.Proofs.Ytpllpofoclijlaa
open Go.RowKit
set_option linter.unusedVariables false

theorem mem_set_of {α : Type} {l : List α} {i : Nat} {a b : α} (h : b ∈ l.set i a) : b ∈ l ∨ b = a := List.mem_or_eq_of_mem_set h

/-- what is at hand when one thing is stored: the net's box and its rows -/
structure InNear (w W : World) (B g : Nat) (ap : Option Addr) (np cp : Nat) (at_ : Option Addr) (nt ct : Nat) (ps : List Pl) (l : List (Tr × Value × Value × Value)) : Prop where
  all : AllOwn B W (boxRow g 30 [.slice ap np cp, .slice at_ nt ct] :: netRows (.slice ap np cp) (.slice at_ nt ct) ps l)
  hp : np = ps.length
  hl : nt = l.length
  sp : ∀ p ∈ ps, p.name.size ≤ 1000
  st : ∀ x ∈ l, x.1.name.size ≤ 1000
  below : Below w.heap.size w W
  wB : w.heap.size ≤ B
  BW : B ≤ W.heap.size

section
variable {w W : World} {B g np cp nt ct : Nat} {ap at_ : Option Addr} {ps : List Pl} {l : List (Tr × Value × Value × Value)}

theorem InNear.go {W' : World} (h : InNear w W B g ap np cp at_ nt ct ps l) (hb : Below W.heap.size W W') : InNear w W' B g ap np cp at_ nt ct ps l :=
  ⟨h.all.below hb, h.hp, h.hl, h.sp, h.st, h.below.trans (hb.mono h.below.size), h.wB, Nat.le_trans h.BW hb.size⟩
theorem InNear.pl (h : InNear w W B g ap np cp at_ nt ct ps l) : OwnP B W (.slice ap np cp) ps := h.all.own (plRow (.slice ap np cp) ps) (by simp [netRows])
theorem InNear.tr (h : InNear w W B g ap np cp at_ nt ct ps l) : OwnT B W (.slice at_ nt ct) l := h.all.own (trRow (.slice at_ nt ct) l) (by simp [netRows])

/-- the place at hand: where it lies, its cells -/
theorem InNear.place (h : InNear w W B g ap np cp at_ nt ct ps l) {i : Nat} (hi : i < np) : ∃ r p, ap = some ⟨r, 0, none⟩ ∧ B ≤ r ∧ r < W.heap.size ∧ ps[i]? = some p ∧ W.cell? ⟨r, i * 2, none⟩ = some (.string p.name) ∧ W.cell? ⟨r, i * 2 + 1, none⟩ = some (.int .i64 p.tok) ∧ (∀ j, W.frozen? ⟨r, j, none⟩ = false) := by
  obtain ⟨p, hp⟩ := at_lt (l := ps) (k := i) (by rw [← h.hp]; exact hi)
  have ho := h.pl
  have hnp := h.hp
  rcases ho.2 with ⟨e, h0⟩ | ⟨r, cap, cur, e, hB, hb, _⟩
  · omega
  · injection e with e1 e2 e3
    subst e1
    obtain ⟨b, off, e', hbl, f0, f1⟩ := PlsAt.at_ ho.at_ hp
    injection e' with e'
    injection e' with e4 e5 _
    subst e4 e5
    rw [Nat.zero_add] at f0 f1
    have ho' : W.ownsRow B 35 2 (.slice (some ⟨r, 0, none⟩) np cp) np (ps.flatMap plL) := by rw [hnp]; rw [hnp] at ho; exact ho
    exact ⟨r, p, rfl, hB, hbl, hp, f0, f1, fun j => World.ownsRow.frozenAt ho' j⟩

/-- a place's cell is stored -/
theorem InNear.setPl {r : Nat} (h : InNear w W B g (some ⟨r, 0, none⟩) np cp at_ nt ct ps l) {i j : Nat} {p p' : Pl} {y : Value} (hi : ps[i]? = some p) (hj : j < 2) (hp : plL p' = (plL p).set j y) (hs : p'.name.size ≤ 1000) :
    InNear w (W.setCell ⟨r, i * 2 + j, none⟩ y) B g (some ⟨r, 0, none⟩) np cp at_ nt ct (ps.set i p') l := by
  have h1 := AllOwn.storePl h.all (by rw [h.hp]) hi hj hp
  have hr := Row.lt (r := plRow (.slice (some ⟨r, 0, none⟩) np cp) ps) h.pl (k := r) rfl
  refine ⟨h1.1, by rw [List.length_set]; exact h.hp, h.hl, fun q hq => ?_, h.st, h.below.trans (h1.2.below (fun k e => by have := h.wB; omega) h.below.size), h.wB, Nat.le_trans h.BW h1.2.size⟩
  rcases mem_set_of hq with hq | rfl
  · exact h.sp q hq
  · exact hs

/-- the transition at hand: where it lies, its cells -/
theorem InNear.trans (h : InNear w W B g ap np cp at_ nt ct ps l) {i : Nat} (hi : i < nt) : ∃ r t v1 v2 v3, at_ = some ⟨r, 0, none⟩ ∧ B ≤ r ∧ r < W.heap.size ∧ l[i]? = some (t, v1, v2, v3) ∧
    W.cell? ⟨r, i * 6, none⟩ = some (.string t.name) ∧ W.cell? ⟨r, i * 6 + 1, none⟩ = some (.int .i64 t.delay) ∧ W.cell? ⟨r, i * 6 + 2, none⟩ = some (.int .i64 t.prio) ∧ W.cell? ⟨r, i * 6 + 3, none⟩ = some v1 ∧ W.cell? ⟨r, i * 6 + 4, none⟩ = some v2 ∧ W.cell? ⟨r, i * 6 + 5, none⟩ = some v3 ∧
    (∀ j, W.frozen? ⟨r, j, none⟩ = false) ∧ OwnA B W v1 t.inn ∧ OwnA B W v2 t.nt ∧ OwnA B W v3 t.out := by
  obtain ⟨⟨t, v1, v2, v3⟩, hx⟩ := at_lt (l := l) (k := i) (by rw [← h.hl]; exact hi)
  have ho := h.tr
  have hnt := h.hl
  have hm : ∀ r ∈ arcRows (t, v1, v2, v3), r ∈ (boxRow g 30 [.slice ap np cp, .slice at_ nt ct] :: netRows (.slice ap np cp) (.slice at_ nt ct) ps l) := fun r hr => by
    unfold netRows
    rw [List.mem_cons, List.mem_cons, List.mem_cons]
    exact .inr (.inr (.inr (List.mem_flatMap.2 ⟨_, List.mem_of_getElem? hx, hr⟩)))
  have g1 : OwnA B W v1 t.inn := h.all.own (arcRow v1 t.inn) (hm _ (by simp [arcRows]))
  have g2 : OwnA B W v2 t.nt := h.all.own (arcRow v2 t.nt) (hm _ (by simp [arcRows]))
  have g3 : OwnA B W v3 t.out := h.all.own (arcRow v3 t.out) (hm _ (by simp [arcRows]))
  rcases ho.2 with ⟨e, h0⟩ | ⟨r, cap, cur, e, hB, hb, _⟩
  · omega
  · injection e with e1 e2 e3
    subst e1
    have hrow : RowAt 6 W (.slice (some ⟨r, 0, none⟩) nt ct) l.length (l.flatMap trL) := RowAt.of_own ho
    obtain ⟨b, off, e', hbl, hc⟩ := RowAt.elem trL_len hrow hx
    injection e' with e'
    injection e' with e4 e5 _
    subst e4 e5
    have ho' : W.ownsRow B 40 6 (.slice (some ⟨r, 0, none⟩) nt ct) nt (l.flatMap trL) := by rw [hnt]; rw [hnt] at ho; exact ho
    have hc' : ∀ (j : Nat) (y : Value), (trL (t, v1, v2, v3))[j]? = some y → W.cell? ⟨r, i * 6 + j, none⟩ = some y := fun j y hy => by have := hc j y hy; rwa [Nat.zero_add] at this
    exact ⟨r, t, v1, v2, v3, rfl, hB, hbl, hx, hc' 0 _ rfl, hc' 1 _ rfl, hc' 2 _ rfl, hc' 3 _ rfl, hc' 4 _ rfl, hc' 5 _ rfl, fun j => World.ownsRow.frozenAt ho' j, g1, g2, g3⟩

theorem InNear.setTr {r : Nat} (h : InNear w W B g ap np cp (some ⟨r, 0, none⟩) nt ct ps l) {i j : Nat} {x x' : Tr × Value × Value × Value} {y : Value} (hi : l[i]? = some x) (hj : j < 6) (hp : trL x' = (trL x).set j y) (hx : arcRows x' = arcRows x) (hs : x'.1.name.size ≤ 1000) :
    InNear w (W.setCell ⟨r, i * 6 + j, none⟩ y) B g ap np cp (some ⟨r, 0, none⟩) nt ct ps (l.set i x') := by
  have h1 := AllOwn.storeTr h.all (by rw [h.hl]) hi hj hp hx
  have hr := Row.lt (r := trRow (.slice (some ⟨r, 0, none⟩) nt ct) l) h.tr (k := r) rfl
  refine ⟨h1.1, h.hp, by rw [List.length_set]; exact h.hl, h.sp, fun q hq => ?_, h.below.trans (h1.2.below (fun k e => by have := h.wB; omega) h.below.size), h.wB, Nat.le_trans h.BW h1.2.size⟩
  rcases mem_set_of hq with hq | rfl
  · exact h.st q hq
  · exact hs

theorem InNear.setIn {b c q j : Nat} {t : Tr} {v2 v3 : Value} (h : InNear w W B g ap np cp at_ nt ct ps l) {i : Nat} {a a' : Int × Int} {y : Value} (hi : l[i]? = some (t, .slice (some ⟨b, 0, none⟩) t.inn.length c, v2, v3)) (hq : t.inn[q]? = some a) (hj : j < 2) (ha : arcL a' = (arcL a).set j y) :
    InNear w (W.setCell ⟨b, q * 2 + j, none⟩ y) B g ap np cp at_ nt ct ps (l.set i (⟨t.name, t.delay, t.prio, t.inn.set q a', t.nt, t.out⟩, .slice (some ⟨b, 0, none⟩) t.inn.length c, v2, v3)) := by
  have h1 := AllOwn.storeIn h.all hi rfl hq hj ha rfl
  have hb : B ≤ b := by
    have hm : arcRow (.slice (some ⟨b, 0, none⟩) t.inn.length c) t.inn ∈ (boxRow g 30 [.slice ap np cp, .slice at_ nt ct] :: netRows (.slice ap np cp) (.slice at_ nt ct) ps l) := by
      unfold netRows
      rw [List.mem_cons, List.mem_cons, List.mem_cons]
      exact .inr (.inr (.inr (List.mem_flatMap.2 ⟨_, List.mem_of_getElem? hi, by simp [arcRows]⟩)))
    exact (Row.lt (h.all.own _ hm) (k := b) rfl).1
  refine ⟨h1.1, h.hp, by rw [List.length_set]; exact h.hl, h.sp, fun q hq => ?_, h.below.trans (h1.2.below (fun k e => by have := h.wB; omega) h.below.size), h.wB, Nat.le_trans h.BW h1.2.size⟩
  rcases mem_set_of hq with hq | rfl
  · exact h.st q hq
  · exact h.st (t, .slice (some ⟨b, 0, none⟩) t.inn.length c, v2, v3) (List.mem_of_getElem? hi)

theorem InNear.setOut {r : Nat} {W2 : World} {t : Tr} {v1 v2 v3 u : Value} {out' : List (Int × Int)} (h : InNear w W B g ap np cp (some ⟨r, 0, none⟩) nt ct ps l) {i : Nat} (hi : l[i]? = some (t, v1, v2, v3)) (hb : Below W.heap.size W W2) (hu : OwnA W.heap.size W2 u out') :
    InNear w (W2.setCell ⟨r, i * 6 + 5, none⟩ u) B g ap np cp (some ⟨r, 0, none⟩) nt ct ps (l.set i (⟨t.name, t.delay, t.prio, t.inn, t.nt, out'⟩, v1, v2, u)) := by
  have h1 := AllOwn.newOut h.all (by rw [h.hl]) hi h.BW hb hu
  have hr := Row.lt (r := trRow (.slice (some ⟨r, 0, none⟩) nt ct) l) h.tr (k := r) rfl
  have hk := (h.below.trans (hb.mono h.below.size)).trans (h1.2.below (fun k e => by have := h.wB; omega) (Nat.le_trans h.below.size hb.size))
  refine ⟨h1.1, h.hp, by rw [List.length_set]; exact h.hl, h.sp, fun q hq => ?_, hk, h.wB, Nat.le_trans (Nat.le_trans h.BW hb.size) h1.2.size⟩
  rcases mem_set_of hq with hq | rfl
  · exact h.st q hq
  · exact h.st (t, v1, v2, v3) (List.mem_of_getElem? hi)

theorem InNear.setNot {r : Nat} {W2 : World} {t : Tr} {v1 v2 v3 u : Value} {nt' : List (Int × Int)} (h : InNear w W B g ap np cp (some ⟨r, 0, none⟩) nt ct ps l) {i : Nat} (hi : l[i]? = some (t, v1, v2, v3)) (hb : Below W.heap.size W W2) (hu : OwnA W.heap.size W2 u nt') :
    InNear w (W2.setCell ⟨r, i * 6 + 4, none⟩ u) B g ap np cp (some ⟨r, 0, none⟩) nt ct ps (l.set i (⟨t.name, t.delay, t.prio, t.inn, nt', t.out⟩, v1, u, v3)) := by
  have h1 := AllOwn.newNot h.all (by rw [h.hl]) hi h.BW hb hu
  have hr := Row.lt (r := trRow (.slice (some ⟨r, 0, none⟩) nt ct) l) h.tr (k := r) rfl
  have hk := (h.below.trans (hb.mono h.below.size)).trans (h1.2.below (fun k e => by have := h.wB; omega) (Nat.le_trans h.below.size hb.size))
  refine ⟨h1.1, h.hp, by rw [List.length_set]; exact h.hl, h.sp, fun q hq => ?_, hk, h.wB, Nat.le_trans (Nat.le_trans h.BW hb.size) h1.2.size⟩
  rcases mem_set_of hq with hq | rfl
  · exact h.st q hq
  · exact h.st (t, v1, v2, v3) (List.mem_of_getElem? hi)
end
end Go.Proofs.Ytpllpofoclijlaa
