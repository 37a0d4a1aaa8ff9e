/-
  A row of labels in memory; a row being built beside a slice of rows, and put at its end.
  Conditions: none beyond each theorem's own.
-/
import Derived.Test.YthpcaamfcmjnmaaJoinMath
namespace Go.Proofs.Ythpcaamfcmjnmaa
open Go.RowKit
set_option linter.unusedVariables false

/-- block r is the row of the labels f of the elements below m -/
def LabelAt (B : Nat) (w : World) (r m : Nat) (f : Nat → Nat) : Prop := w.ownsRow B 3 1 (.slice (some ⟨r, 0, none⟩) m m) m (ints ((List.range m).map f))

section
variable {B : Nat} {w w' : World} {r m : Nat} {f g : Nat → Nat}

theorem LabelAt.cell (h : LabelAt B w r m f) (c : Nat) (hc : c < m) : w.cell? ⟨r, c, none⟩ = some (.int .i64 (f c)) := by
  rw [World.ownsRow.cellAt h c (by omega)]
  simp [ints, hc]

theorem LabelAt.frozen (h : LabelAt B w r m f) (c : Nat) : w.frozen? ⟨r, c, none⟩ = false := World.ownsRow.frozenAt h c

theorem LabelAt.congr (h : LabelAt B w r m f) (e : ∀ c, c < m → f c = g c) : LabelAt B w r m g := by
  have : (List.range m).map f = (List.range m).map g := List.map_congr_left (fun c hc => e c (by simpa using hc))
  unfold LabelAt
  rw [← this]
  exact h

theorem LabelAt.at (h : LabelAt B w r m f) : B ≤ r ∧ r < w.heap.size := World.ownsRow.lt h r (by simp [Value.ownBlock])

theorem LabelAt.lay (h : LabelAt B w r m f) (c v : Nat) : LabelAt B (w.setCell ⟨r, c, none⟩ (.int .i64 v)) r m (lay f c v) ∧ Kept (fun k => k = r) w (w.setCell ⟨r, c, none⟩ (.int .i64 v)) := by
  obtain ⟨h1, h2⟩ := World.ownsRow.stored h c (.int .i64 v)
  refine ⟨?_, (Kept.refl _ w).grown h2 (fun k e => by injection e with e; exact e.symm)⟩
  have e : (ints ((List.range m).map f)).set c (.int .i64 v) = ints ((List.range m).map (Proofs.Ythpcaamfcmjnmaa.lay f c v)) := by
    apply List.ext_getElem?
    intro j
    rw [List.getElem?_set]
    by_cases hj : j < m
    · by_cases hjc : c = j
      · subst hjc; simp [ints, hj, Proofs.Ythpcaamfcmjnmaa.lay]
      · have : j ≠ c := fun e => hjc e.symm
        simp [ints, hj, Proofs.Ythpcaamfcmjnmaa.lay, hjc, this]
    · simp [ints, hj]; omega
  unfold LabelAt
  rw [← e]
  exact h1

theorem LabelAt.kept {S : Nat → Prop} (h : LabelAt B w r m f) (hk : Kept S w w') (hS : ¬ S r) : LabelAt B w' r m f :=
  ownS h hk (fun k e => by simp [Value.ownBlock] at e; subst e; exact hS)

theorem LabelAt.drewN (h : LabelAt B w r m f) (n : Nat) : LabelAt B (w.drewN n) r m f := h.kept (S := fun _ => False) ((Kept.refl _ w).drewN n) (fun e => e)

theorem run_make_labels (m : Nat) (hm : m ≤ 1000000) (w : World) : ∃ w', (Instr.makeSlice 46 (.int .i64 (m : Int)) (.int .i64 (m : Int))).run Try.prog w = .ok (.slice (some ⟨w.heap.size, 0, none⟩) m m) w' ∧ LabelAt w.heap.size w' w.heap.size m (fun _ => 0) ∧ Below w.heap.size w w' := by
  obtain ⟨i0, hi0, hz0, hz1, hz2⟩ := info_parts Try.infoInt
  obtain ⟨w', h1, h2, h3⟩ := run_make_full (P := Try.prog) w w.heap.size 46 3 i0 _ 1 Try.underlying46 hi0 hz0 hz1 .i64 .i64 m (by rw [hz2]; omega) (by unfold maxLen; omega) (Nat.le_refl _)
  refine ⟨w', h1, ?_, ⟨h3.os, h3.tape, h3.output, h3.size, fun k hk => h3.block k hk (by simp)⟩⟩
  unfold LabelAt
  have e : ints ((List.range m).map (fun _ => 0)) = (madeCells (Value.int .i64 0).cells (m * 1)).toList := by
    have : (Value.int .i64 0).cells = #[.int .i64 0] := rfl
    rw [this, toList_madeCells_one]
    apply List.ext_getElem?
    intro j
    by_cases hj : j < m <;> simp [ints, hj]
  rw [e]
  exact h2

end

/-- 'append(out, l)', out a row of rows of the call's own -/
theorem run_push_row {B n : Nat} {v lv : Value} {vs : List Value} (ty : TypeId) {w : World} (h : w.ownsRow B 46 1 v n vs) (hlv : lv.oneCell' = true) (hl : n ≤ 1000000) (hB : B ≤ w.heap.size) :
    ∃ v' w', (Builtin.append_ #[41, 41] ty #[v, .slice (some ⟨w.heap.size, 0, none⟩) 1 1]).run Try.prog (w.alloc (.cells #[lv] 46)) = .ok v' w' ∧ w'.ownsRow B 46 1 v' (n + 1) (vs ++ [lv]) ∧
      Kept (fun k => v.ownBlock = some k) w w' ∧ (v'.ownBlock = v.ownBlock ∨ v'.ownBlock = some (w.heap.size + 1)) := by
  obtain ⟨i0, hi0, hz0, hz1, hz2⟩ := info_parts Try.infoInts
  obtain ⟨v', w', hr, h2, h3, _, h5⟩ := run_append_own_at (P := Try.prog) (w.alloc (.cells #[lv] 46)) B 41 ty 46 i0 _ 1 24 Try.underlying41 hi0 hz0 hz1 hz2 rfl (by omega) v n vs (h.alloc _)
    ⟨w.heap.size, 0, none⟩ 1 1 [lv] rfl (cell_new1 w _ _) (by simpa using hlv) (by unfold maxLen; omega) (by omega) (by simp; omega)
  refine ⟨v', w', hr, h2, ((Kept.refl _ w).alloc _).grown h3 (fun _ h => h), by simpa using h5⟩

theorem own_mono {w : World} {B B' e n size : Nat} {v : Value} {xs : List Value} (h : w.ownsRow B e size v n xs) (hB : B' ≤ B) : w.ownsRow B' e size v n xs := by
  refine ⟨h.1, ?_⟩
  rcases h.2 with h0 | ⟨r, cap, cur, rfl, hBr, rest⟩
  · exact .inl h0
  · exact .inr ⟨r, cap, cur, rfl, Nat.le_trans hB hBr, rest⟩

theorem Rows2.mono {B B' : Nat} {w : World} {v : Value} {vs : List Value} {G : List (List Nat)} (h : Rows2 B w v vs G) (hB : B' ≤ B) : Rows2 B' w v vs G :=
  ⟨own_mono h.out hB, fun i hi => own_mono (h.row i hi) hB, h.apart, h.off⟩

/-- a row l being built beside a slice of rows -/
structure OutRow (B : Nat) (w : World) (v : Value) (vs : List Value) (G : List (List Nat)) (lv : Value) (l : List Nat) : Prop where
  rows : Rows2 B w v vs G
  own : w.ownsRow B 3 1 lv l.length (ints l)
  apart : ∀ k, lv.ownBlock = some k → v.ownBlock ≠ some k ∧ ∀ i, i < G.length → (vs.getD i undef).ownBlock ≠ some k

section
variable {B : Nat} {w w' : World} {v lv v' : Value} {vs : List Value} {G : List (List Nat)} {l : List Nat}

theorem OutRow.start (h : Rows2 B w v vs G) : OutRow B w v vs G (.slice none 0 0) [] := ⟨h, World.ownsRow_nil _ _ _ _, fun k e => by simp [Value.ownBlock] at e⟩

theorem OutRow.add (h : OutRow B w v vs G lv l) {x : Nat} (h1 : w'.ownsRow B 3 1 v' (l ++ [x]).length (ints (l ++ [x]))) (hk : Kept (fun k => lv.ownBlock = some k) w w') (hv : v'.ownBlock = lv.ownBlock ∨ v'.ownBlock = some (w.heap.size + 1)) : OutRow B w' v vs G v' (l ++ [x]) := by
  refine ⟨⟨ownS h.rows.out hk (fun k e f => (h.apart k f).1 e), fun i hi => ownS (h.rows.row i hi) hk (fun k e f => (h.apart k f).2 i hi e), h.rows.apart, h.rows.off⟩, h1, ?_⟩
  intro k e
  rcases hv with hv | hv
  · rw [hv] at e; exact h.apart k e
  · rw [hv] at e
    injection e with e
    refine ⟨fun f => by have := (h.rows.out.lt k f).2; omega, fun i hi f => by have := ((h.rows.row i hi).lt k f).2; omega⟩

theorem OutRow.close (h : OutRow B w v vs G lv l) (h1 : w'.ownsRow B 46 1 v' (G.length + 1) (vs ++ [lv])) (hk : Kept (fun k => v.ownBlock = some k) w w') (hv : v'.ownBlock = v.ownBlock ∨ v'.ownBlock = some (w.heap.size + 1)) : Rows2 B w' v' (vs ++ [lv]) (G ++ [l]) := by
  have hl := h.rows.len
  have e : ∀ i, i < G.length → (vs ++ [lv]).getD i undef = vs.getD i undef := by
    intro i hi
    simp [List.getD, List.getElem?_append, show i < vs.length by omega]
  have e2 : (vs ++ [lv]).getD G.length undef = lv := by simp [List.getD, ← hl]
  have eG : ∀ i, i < G.length → (G ++ [l]).getD i [] = G.getD i [] := by intro i hi; simp [List.getD, List.getElem?_append, hi]
  have eG2 : (G ++ [l]).getD G.length [] = l := by simp [List.getD]
  refine ⟨by simpa using h1, ?_, ?_, ?_⟩
  · intro i hi
    simp at hi
    by_cases hlt : i < G.length
    · rw [e i hlt, eG i hlt]
      exact ownS (h.rows.row i hlt) hk (fun r hr => h.rows.off i r hlt hr)
    · obtain rfl : i = G.length := by omega
      rw [e2, eG2]
      exact ownS h.own hk (fun r hr => (h.apart r hr).1)
  · intro i j k hi hj f1 f2
    simp at hi hj
    by_cases hi2 : i < G.length
    · rw [e i hi2] at f1
      by_cases hj2 : j < G.length
      · rw [e j hj2] at f2; exact h.rows.apart i j k hi2 hj2 f1 f2
      · obtain rfl : j = G.length := by omega
        rw [e2] at f2; exact absurd f1 ((h.apart k f2).2 i hi2)
    · obtain rfl : i = G.length := by omega
      rw [e2] at f1
      by_cases hj2 : j < G.length
      · rw [e j hj2] at f2; exact absurd f2 ((h.apart k f1).2 j hj2)
      · omega
  · intro i k hi f1
    simp at hi
    have hlt : k < w.heap.size := by
      by_cases hi2 : i < G.length
      · rw [e i hi2] at f1; exact ((h.rows.row i hi2).lt k f1).2
      · obtain rfl : i = G.length := by omega
        rw [e2] at f1; exact (h.own.lt k f1).2
    rcases hv with hv | hv
    · rw [hv]
      by_cases hi2 : i < G.length
      · rw [e i hi2] at f1; exact h.rows.off i k hi2 f1
      · obtain rfl : i = G.length := by omega
        rw [e2] at f1; exact (h.apart k f1).1
    · rw [hv]
      intro e3
      injection e3 with e3
      omega

end

end Go.Proofs.Ythpcaamfcmjnmaa
