/-
  A row of keys in memory, four cells a key; what a call leaves alone.
  Conditions: none beyond each theorem's own.
-/
import Derived.Test.YthpcaamfcmjnmaaHeapMath
import Derived.Laws.OwnMore
namespace Go.Proofs.Ythpcaamfcmjnmaa
open Go.RowKit

/-- a key's four cells -/
def kc (k : Key4) : List Value := [.int .i64 k.1, .int .i64 k.2.1, .int .i64 k.2.2.1, .int .i64 k.2.2.2]

/-- the cells of a list of keys -/
def kcells (ks : List Key4) : List Value := ks.flatMap kc

theorem kcells_len (ks : List Key4) : (kcells ks).length = ks.length * 4 := by
  induction ks with
  | nil => rfl
  | cons k l ih => simp only [kcells, List.flatMap_cons, List.length_append, List.length_cons] at *; rw [ih]; simp [kc]; omega

theorem kcells_snoc (ks : List Key4) (x : Key4) : kcells (ks ++ [x]) = kcells ks ++ kc x := by simp [kcells]

theorem kcells_at (ks : List Key4) : ∀ (i j : Nat), i < ks.length → j < 4 → (kcells ks)[i * 4 + j]? = (kc (at4 ks i))[j]? := by
  induction ks with
  | nil => intro i j h; simp at h
  | cons k l ih =>
    intro i j hi hj
    have e : kcells (k :: l) = kc k ++ kcells l := by simp [kcells]
    rw [e]
    cases i with
    | zero => rw [List.getElem?_append_left (by simp [kc]; omega)]; simp [at4]
    | succ i =>
      rw [List.getElem?_append_right (by simp [kc]; omega)]
      have h4 : (kc k).length = 4 := rfl
      rw [h4, show (i + 1) * 4 + j - 4 = i * 4 + j by omega, ih i j (by simpa using hi) hj]
      simp [at4]

theorem kcells_set (ks : List Key4) : ∀ (i : Nat) (x : Key4), i < ks.length →
    ((((kcells ks).set (i * 4) (.int .i64 x.1)).set (i * 4 + 1) (.int .i64 x.2.1)).set (i * 4 + 2) (.int .i64 x.2.2.1)).set (i * 4 + 3) (.int .i64 x.2.2.2) = kcells (ks.set i x) := by
  induction ks with
  | nil => intro i x h; simp at h
  | cons k l ih =>
    intro i x hi
    have e : ∀ k : Key4, ∀ l : List Key4, kcells (k :: l) = .int .i64 k.1 :: .int .i64 k.2.1 :: .int .i64 k.2.2.1 :: .int .i64 k.2.2.2 :: kcells l := by intro k l; simp [kcells, kc]
    cases i with
    | zero => simp [e]
    | succ i =>
      rw [e, List.set_cons_succ, e, ← ih i x (by simpa using hi)]
      rw [show (i + 1) * 4 = i * 4 + 1 + 1 + 1 + 1 by omega]
      simp [show i * 4 + 1 + 1 + 1 + 1 + 1 = i * 4 + 1 + 1 + 1 + 1 + 1 from rfl]

/-- block r is a row of keys, of which the first are ks -/
structure KeyRow (w : World) (r cap : Nat) (ks : List Key4) : Prop where
  blk : ∃ cur : Array Value, w.heap[r]? = some (.cells cur 30 (0, 0)) ∧ cur.size = cap * 4 ∧ cur.toList.take (ks.length * 4) = kcells ks
  le : ks.length ≤ cap
  mx : cap ≤ maxLen

/-- all blocks but those in S are as they were -/
structure Kept (S : Nat → Prop) (w w' : World) : Prop where
  os : w'.os = w.os
  tape : w'.tape = w.tape
  output : w'.output = w.output
  size : w.heap.size ≤ w'.heap.size
  block : ∀ k, k < w.heap.size → ¬ S k → w'.heap[k]? = w.heap[k]?

section
variable {S : Nat → Prop} {w w' w'' : World}

theorem Kept.refl (S : Nat → Prop) (w : World) : Kept S w w := ⟨rfl, rfl, rfl, Nat.le_refl _, fun _ _ _ => rfl⟩
theorem Kept.trans (h : Kept S w w') (k : Kept S w' w'') : Kept S w w'' :=
  ⟨k.os.trans h.os, k.tape.trans h.tape, k.output.trans h.output, Nat.le_trans h.size k.size, fun i hi hs => (k.block i (Nat.lt_of_lt_of_le hi h.size) hs).trans (h.block i hi hs)⟩
theorem Kept.of_below (h : Below w.heap.size w w') : Kept S w w' := ⟨h.os, h.tape, h.output, h.size, fun k hk _ => h.block k hk⟩
theorem Kept.drew (h : Kept S w w') : Kept S w w'.drew := ⟨h.os, h.tape, h.output, h.size, h.block⟩
theorem Kept.drewN (h : Kept S w w') (n : Nat) : Kept S w (w'.drewN n) := ⟨h.os, h.tape, h.output, h.size, h.block⟩
theorem Kept.alloc (h : Kept S w w') (o : Obj) : Kept S w (w'.alloc o) := h.trans (Kept.of_below ((Below.refl _ _).alloc (Nat.le_refl _) o))
theorem Kept.setCell (h : Kept S w w') {p : Addr} (hp : S p.block) (v : Value) : Kept S w (w'.setCell p v) :=
  h.trans ⟨rfl, rfl, rfl, by simp [World.setCell], fun k _ hk => Below.heap_setCell _ _ _ _ (fun e => hk (by rw [e]; exact hp))⟩
theorem Kept.grown (h : Kept S w w') {row : Option Nat} (hg : w'.grownBy w'' row) (hr : ∀ k, row = some k → S k) : Kept S w w'' :=
  h.trans ⟨hg.os, hg.tape, hg.output, hg.size, fun k hk hs => hg.block k hk (fun e => hs (hr k e.symm))⟩
theorem Kept.mono {T : Nat → Prop} (h : Kept S w w') (hST : ∀ k, k < w.heap.size → S k → T k) : Kept T w w' :=
  ⟨h.os, h.tape, h.output, h.size, fun k hk ht => h.block k hk (fun hs => ht (hST k hk hs))⟩
theorem Kept.below {B : Nat} (h : Kept S w w') (hB : ∀ k, S k → B ≤ k) (hs : B ≤ w.heap.size) : Below B w w' :=
  ⟨h.os, h.tape, h.output, h.size, fun k hk => h.block k (by omega) (fun hS => by have := hB k hS; omega)⟩
theorem Kept.cell (h : Kept S w w') {b o : Nat} {v : Value} (hb : b < w.heap.size) (hs : ¬ S b) (hc : w.cell? ⟨b, o, none⟩ = some v) : w'.cell? ⟨b, o, none⟩ = some v :=
  (World.cell?_of_block (w := w) (a := ⟨b, o, none⟩) (h.block b hb hs)).trans hc
theorem Kept.froz (h : Kept S w w') {b o : Nat} (hb : b < w.heap.size) (hs : ¬ S b) (hc : w.frozen? ⟨b, o, none⟩ = false) : w'.frozen? ⟨b, o, none⟩ = false :=
  (World.frozen?_of_block (w := w) (a := ⟨b, o, none⟩) (h.block b hb hs)).trans hc

variable {r cap : Nat} {ks : List Key4}

theorem KeyRow.lt (h : KeyRow w r cap ks) : r < w.heap.size := by
  obtain ⟨cur, hb, _⟩ := h.blk
  exact (Array.getElem?_eq_some_iff.1 hb).1

theorem KeyRow.cells (h : KeyRow w r cap ks) (i j : Nat) (hi : i < ks.length) (hj : j < 4) : w.cell? ⟨r, i * 4 + j, none⟩ = (kc (at4 ks i))[j]? := by
  obtain ⟨cur, hb, hs, ht⟩ := h.blk
  rw [cell_of_row w r _ cur _ (0, 0) hb, ← kcells_at ks i j hi hj, ← ht, List.getElem?_take, if_pos (by omega)]
  simp

theorem KeyRow.frozen (h : KeyRow w r cap ks) (o : Nat) : w.frozen? ⟨r, o, none⟩ = false := by
  obtain ⟨cur, hb, _⟩ := h.blk
  simp [World.frozen?, hb]

theorem KeyRow.same (h : KeyRow w r cap ks) (hb : w'.heap[r]? = w.heap[r]?) : KeyRow w' r cap ks := by
  obtain ⟨cur, hb', hs, ht⟩ := h.blk
  exact ⟨⟨cur, hb.trans hb', hs, ht⟩, h.le, h.mx⟩

theorem KeyRow.drew (h : KeyRow w r cap ks) : KeyRow w.drew r cap ks := h.same rfl
theorem KeyRow.below (h : KeyRow w r cap ks) (hb : Below w.heap.size w w') : KeyRow w' r cap ks := h.same (hb.block r h.lt)
theorem KeyRow.kept (h : KeyRow w r cap ks) (hk : Kept S w w') (hs : ¬ S r) : KeyRow w' r cap ks := h.same (hk.block r h.lt hs)

/-- a key stored at place i -/
def put4 (w : World) (r i : Nat) (x : Key4) : World :=
  (((w.setCell ⟨r, i * 4, none⟩ (.int .i64 x.1)).setCell ⟨r, i * 4 + 1, none⟩ (.int .i64 x.2.1)).setCell ⟨r, i * 4 + 2, none⟩ (.int .i64 x.2.2.1)).setCell ⟨r, i * 4 + 3, none⟩ (.int .i64 x.2.2.2)

theorem KeyRow.put (h : KeyRow w r cap ks) (i : Nat) (x : Key4) (hi : i < ks.length) : KeyRow (put4 w r i x) r cap (ks.set i x) := by
  obtain ⟨cur, hb, hs, ht⟩ := h.blk
  refine ⟨⟨_, Joins.block_setCell (Joins.block_setCell (Joins.block_setCell (Joins.block_setCell hb _) _) _) _, by simpa using hs, ?_⟩, by simpa using h.le, h.mx⟩
  simp only [Array.toList_setIfInBounds, List.length_set]
  rw [← kcells_set ks i x hi, ← ht]
  simp only [List.take_set]

theorem Kept.put (h : Kept S w w') (hr : S r) (i : Nat) (x : Key4) : Kept S w (put4 w' r i x) :=
  (((h.setCell hr _).setCell hr _).setCell hr _).setCell hr _

theorem KeyRow.cell4 (h : KeyRow w r cap ks) (i : Nat) (hi : i < ks.length) (x : Key4) (hx : at4 ks i = x) :
    w.cell? ⟨r, i * 4, none⟩ = some (.int .i64 x.1) ∧ w.cell? ⟨r, i * 4 + 1, none⟩ = some (.int .i64 x.2.1) ∧ w.cell? ⟨r, i * 4 + 2, none⟩ = some (.int .i64 x.2.2.1) ∧ w.cell? ⟨r, i * 4 + 3, none⟩ = some (.int .i64 x.2.2.2) := by
  subst hx
  exact ⟨h.cells i 0 hi (by omega), h.cells i 1 hi (by omega), h.cells i 2 hi (by omega), h.cells i 3 hi (by omega)⟩

end

end Go.Proofs.Ythpcaamfcmjnmaa
