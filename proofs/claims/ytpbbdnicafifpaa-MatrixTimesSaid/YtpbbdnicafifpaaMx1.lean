/-
  Rows of ints of the call's own, each apart from the others; matrices that can be read. What noughts, width, Turn, Right, Left and Zero of package matrix come to. What Turn, Right, Left and Zero of package matrix come to; the document's own comparison of two lists of lists that are one.
  Conditions: none beyond each theorem's own.
-/
import Derived.Test.YtpbbdnicafifpaaMarkI
import Derived.Test.YtpbbdnicafifpaaNum1
/-! ## MxA -/
namespace Go.Proofs.Ytpbbdnicafifpaa
open Go.RowKit
set_option linter.unusedVariables false

/-- c numbers -/
def rowF (c : Nat) (f : Nat → Int) : List Int := (List.range c).map f
theorem rowF_len (c : Nat) (f : Nat → Int) : (rowF c f).length = c := by simp [rowF]
theorem rowF_get {c : Nat} (f : Nat → Int) {k : Nat} (h : k < c) : (rowF c f)[k]? = some (f k) := by simp [rowF, h]
theorem rowF_congr {c : Nat} {f g : Nat → Int} (h : ∀ k, k < c → f k = g k) : rowF c f = rowF c g := by
  unfold rowF
  exact List.map_congr_left fun k hk => h k (List.mem_range.1 hk)
theorem rowF_set {c : Nat} (f : Nat → Int) (k : Nat) (z : Int) : (rowF c f).set k z = rowF c (fun j => if j = k then z else f j) := by
  apply List.ext_getElem?
  intro j
  by_cases hj : j < c
  · rw [rowF_get _ hj, List.getElem?_set, rowF_get _ hj, rowF_len]
    by_cases e : k = j
    · subst e; simp [hj]
    · rw [if_neg e, if_neg (Ne.symm e)]
  · rw [List.getElem?_eq_none (by rw [List.length_set, rowF_len]; omega), List.getElem?_eq_none (by rw [rowF_len]; omega)]
theorem rowF_zero (c : Nat) : List.replicate c (0 : Int) = rowF c (fun _ => 0) := by
  apply List.ext_getElem?
  intro j
  by_cases hj : j < c
  · rw [rowF_get _ hj]; simp [hj]
  · rw [List.getElem?_eq_none (by simp; omega), List.getElem?_eq_none (by rw [rowF_len]; omega)]
theorem rowF_of (l : List Int) : l = rowF l.length (fun k => l.getD k 0) := by
  apply List.ext_getElem?
  intro j
  by_cases hj : j < l.length
  · rw [rowF_get _ hj]; simp [hj]
  · rw [List.getElem?_eq_none (by omega), List.getElem?_eq_none (by rw [rowF_len]; omega)]
theorem rowF_succ (c : Nat) (f : Nat → Int) : rowF (c + 1) f = rowF c f ++ [f c] := by simp [rowF, List.range_succ]

theorem Try.infoIs : (Try.prog.info? 39).map (fun i => (i.zero, i.size, i.bytes)) = some (some (.slice none 0 0), 1, 24) := by kernel_rfl

/-- v is a slice of the slices vs, the i-th of which holds F i; all are apart, and none lies below B -/
structure RowsOwn (B : Nat) (w : World) (v : Value) (vs : List Value) (F : Nat → List Int) : Prop where
  out : w.ownsRow B 39 1 v vs.length vs
  row : ∀ i, i < vs.length → OwnI B w (vs.getD i undef) (F i)
  apart : ∀ i j k, i < vs.length → j < vs.length → (vs.getD i undef).ownBlock = some k → (vs.getD j undef).ownBlock = some k → i = j
  off : ∀ i k, i < vs.length → (vs.getD i undef).ownBlock = some k → v.ownBlock ≠ some k

section
variable {B : Nat} {w w' : World} {v : Value} {vs : List Value} {F G : Nat → List Int}

theorem RowsOwn.congr (h : RowsOwn B w v vs F) (e : ∀ i, i < vs.length → F i = G i) : RowsOwn B w v vs G :=
  ⟨h.out, fun i hi => e i hi ▸ h.row i hi, h.apart, h.off⟩

theorem RowsOwn.kept {S : Nat → Prop} (h : RowsOwn B w v vs F) (hk : Kept S w w') (hS : ∀ k, B ≤ k → ¬ S k) : RowsOwn B w' v vs F :=
  ⟨ownS h.out hk (fun r hr => hS r (h.out.lt r hr).1), fun i hi => ownS (h.row i hi) hk (fun r hr => hS r (World.ownsRow.lt (h.row i hi) r hr).1), h.apart, h.off⟩
theorem RowsOwn.below (h : RowsOwn B w v vs F) (hb : Below w.heap.size w w') : RowsOwn B w' v vs F :=
  h.kept (S := fun _ => False) (Kept.of_below hb) (fun _ _ e => e)
theorem RowsOwn.mono {B' : Nat} (h : RowsOwn B w v vs F) (hB : B' ≤ B) : RowsOwn B' w v vs F :=
  ⟨own_mono h.out hB, fun i hi => own_mono (h.row i hi) hB, h.apart, h.off⟩

theorem RowsOwn.nil (B : Nat) (w : World) (F : Nat → List Int) : RowsOwn B w (.slice none 0 0) [] F :=
  ⟨World.ownsRow_nil _ _ _ _, fun i h => by simp at h, fun i j k h => by simp at h, fun i k h => by simp at h⟩

/-- all are nil yet -/
theorem RowsOwn.start {r : Nat} {b c : Nat} (h : w.ownsRow B 39 1 (.slice (some ⟨b, 0, none⟩) r c) r (List.replicate r (.slice none 0 0))) : RowsOwn B w (.slice (some ⟨b, 0, none⟩) r c) (List.replicate r (.slice none 0 0)) (fun _ => []) := by
  have e : ∀ i, i < r → (List.replicate r (Value.slice none 0 0)).getD i undef = .slice none 0 0 := by intro i hi; simp [List.getD, hi]
  refine ⟨by simpa using h, fun i hi => ?_, fun i j k hi hj h1 h2 => ?_, fun i k hi h1 => ?_⟩
  · simp at hi
    rw [e i hi]
    exact World.ownsRow_nil _ _ _ _
  · simp at hi; rw [e i hi] at h1; cases h1
  · simp at hi; rw [e i hi] at h1; cases h1

theorem RowsOwn.rowform (h : RowsOwn B w v vs F) {i : Nat} (hi : i < vs.length) : ∃ a cap, vs.getD i undef = .slice a (F i).length cap := own_form (h.row i hi)

theorem RowsOwn.len {a : Option Addr} {n c : Nat} (h : RowsOwn B w (.slice a n c) vs F) : n = vs.length := by
  rcases h.out.2 with ⟨e, h0⟩ | ⟨r, cap, cur, e, _⟩
  · injection e with _ e _; omega
  · injection e

/-- a new list put in the i-th place -/
theorem RowsOwn.setRow {b n c i : Nat} {x : Value} {l : List Int} {w1 : World} (h : RowsOwn B w (.slice (some ⟨b, 0, none⟩) n c) vs F) (hi : i < vs.length) (hB : B ≤ w.heap.size) (hb : Below w.heap.size w w1) (hx : OwnI w.heap.size w1 x l) :
    RowsOwn B (w1.setCell ⟨b, i, none⟩ x) (.slice (some ⟨b, 0, none⟩) n c) (vs.set i x) (fun j => if j = i then l else F j) ∧ Kept (fun k => k = b) w (w1.setCell ⟨b, i, none⟩ x) := by
  obtain rfl := h.len
  have h1 := h.below hb
  have hr := h.out.lt b (by simp [Value.ownBlock])
  have hr1 := h1.out.lt b (by simp [Value.ownBlock])
  obtain ⟨ho3, hg3⟩ := h1.out.stored i x
  have hk3 : Kept (fun j => j = b) w1 (w1.setCell ⟨b, i, none⟩ x) := (Kept.refl _ w1).grown hg3 (fun j e => by injection e with e; exact e.symm)
  have e1 : (vs.set i x).getD i undef = x := by simp [List.getD, hi]
  have e2 : ∀ j, j ≠ i → (vs.set i x).getD j undef = vs.getD j undef := by intro j hj; simp [List.getD, List.getElem?_set_ne (Ne.symm hj)]
  have fresh : ∀ j k, j < vs.length → (vs.getD j undef).ownBlock = some k → x.ownBlock ≠ some k := by
    intro j k hj h2 h3
    have := (World.ownsRow.lt (h.row j hj) k h2).2
    have := (World.ownsRow.lt hx k h3).1
    omega
  refine ⟨⟨by simpa using ho3, ?_, ?_, ?_⟩, (Kept.of_below hb).trans hk3⟩
  · intro j hj
    simp at hj
    by_cases e : j = i
    · subst e
      rw [e1]
      simp only [if_true]
      exact ownS (own_mono hx hB) hk3 (fun k hk hkb => by have := (World.ownsRow.lt hx k hk).1; omega)
    · rw [e2 j e]
      simp only [if_neg e]
      exact ownS (h1.row j hj) hk3 (fun k hk hkb => h1.off j k hj hk (by simp [Value.ownBlock, hkb]))
  · intro j k m hj hk h2 h3
    simp at hj hk
    by_cases ej : j = i
    · subst ej
      rw [e1] at h2
      by_cases ek : k = j
      · exact ek.symm
      · rw [e2 k ek] at h3
        exact absurd h2 (fresh k m hk h3)
    · rw [e2 j ej] at h2
      by_cases ek : k = i
      · subst ek
        rw [e1] at h3
        exact absurd h3 (fresh j m hj h2)
      · rw [e2 k ek] at h3
        exact h.apart j k m hj hk h2 h3
  · intro j k hj h2
    simp at hj
    by_cases ej : j = i
    · subst ej
      rw [e1] at h2
      intro e
      simp [Value.ownBlock] at e
      have := (World.ownsRow.lt hx k h2).1
      omega
    · rw [e2 j ej] at h2
      exact h.off j k hj h2

/-- a number put into a row -/
theorem RowsOwn.setAt {b1 n1 c1 i k : Nat} {z : Int} (h : RowsOwn B w v vs F) (hi : i < vs.length) (he : vs.getD i undef = .slice (some ⟨b1, 0, none⟩) n1 c1) (hk : k < (F i).length) :
    RowsOwn B (w.setCell ⟨b1, k, none⟩ (.int .i64 z)) v vs (fun j => if j = i then (F i).set k z else F j) ∧ Kept (fun j => j = b1) w (w.setCell ⟨b1, k, none⟩ (.int .i64 z)) := by
  have hrow := h.row i hi
  rw [he] at hrow
  have hst := OwnI.set hrow k z hk
  refine ⟨⟨?_, ?_, h.apart, h.off⟩, hst.2⟩
  · exact ownS h.out hst.2 (fun r hr e => h.off i r hi (by rw [he, e]; rfl) hr)
  · intro j hj
    by_cases e : j = i
    · subst e
      simp only [if_true]
      rw [he]
      exact hst.1
    · simp only [if_neg e]
      exact ownS (h.row j hj) hst.2 (fun r hr e2 => e (h.apart j i r hj hi hr (by rw [he, e2]; rfl)))

/-- where the slices lie -/
theorem RowsOwn.place {b n c i : Nat} (h : RowsOwn B w (.slice (some ⟨b, 0, none⟩) n c) vs F) (hi : i < vs.length) : w.cell? ⟨b, i, none⟩ = some (vs.getD i undef) ∧ w.frozen? ⟨b, i, none⟩ = false := by
  obtain rfl := h.len
  refine ⟨?_, h.out.frozenAt i⟩
  rw [h.out.cellAt i (by omega)]
  simp [List.getD, hi]
theorem RowsOwn.outlt {b n c : Nat} (h : RowsOwn B w (.slice (some ⟨b, 0, none⟩) n c) vs F) : B ≤ b ∧ b < w.heap.size := h.out.lt b rfl

/-- a new list at the end -/
theorem RowsOwn.push {v' x : Value} {l : List Int} {w1 w2 : World} (h : RowsOwn B w v vs F) (hB : B ≤ w.heap.size) (hb : Below w.heap.size w w1) (hx : OwnI w.heap.size w1 x l)
    (h1 : w2.ownsRow B 39 1 v' (vs.length + 1) (vs ++ [x])) (hk : Kept (fun k => v.ownBlock = some k) w1 w2) (hv : v'.ownBlock = v.ownBlock ∨ ∃ k, v'.ownBlock = some k ∧ w1.heap.size ≤ k) : RowsOwn B w2 v' (vs ++ [x]) (fun j => if j = vs.length then l else F j) := by
  have g := h.below hb
  have e : ∀ i, i < vs.length → (vs ++ [x]).getD i undef = vs.getD i undef := by
    intro i hi
    simp [List.getD, List.getElem?_append, hi]
  have e2 : (vs ++ [x]).getD vs.length undef = x := by simp [List.getD]
  have hxv : ∀ k, x.ownBlock = some k → v.ownBlock ≠ some k := fun k h2 h3 => by
    have := (World.ownsRow.lt hx k h2).1
    have := (h.out.lt k h3).2
    omega
  have fresh : ∀ j k, j < vs.length → (vs.getD j undef).ownBlock = some k → x.ownBlock ≠ some k := by
    intro j k hj h2 h3
    have := (World.ownsRow.lt (h.row j hj) k h2).2
    have := (World.ownsRow.lt hx k h3).1
    omega
  refine ⟨by simpa using h1, ?_, ?_, ?_⟩
  · intro i hi
    simp at hi
    by_cases hlt : i < vs.length
    · rw [e i hlt]
      simp only [if_neg (show ¬ i = vs.length by omega)]
      exact ownS (g.row i hlt) hk (fun r hr => h.off i r hlt hr)
    · obtain rfl : i = vs.length := by omega
      rw [e2]
      simp only [if_true]
      exact ownS (own_mono hx hB) hk hxv
  · intro i j k hi hj h2 h3
    simp at hi hj
    by_cases hi2 : i < vs.length
    · rw [e i hi2] at h2
      by_cases hj2 : j < vs.length
      · rw [e j hj2] at h3; exact h.apart i j k hi2 hj2 h2 h3
      · obtain rfl : j = vs.length := by omega
        rw [e2] at h3; exact absurd h3 (fresh i k hi2 h2)
    · obtain rfl : i = vs.length := by omega
      rw [e2] at h2
      by_cases hj2 : j < vs.length
      · rw [e j hj2] at h3; exact absurd h2 (fresh j k hj2 h3)
      · omega
  · intro i k hi h2
    simp at hi
    by_cases hi2 : i < vs.length
    · rw [e i hi2] at h2
      rcases hv with hv | ⟨k', hv, hk'⟩
      · rw [hv]; exact h.off i k hi2 h2
      · rw [hv]
        intro e
        injection e with e
        have := (World.ownsRow.lt (g.row i hi2) k h2).2
        omega
    · obtain rfl : i = vs.length := by omega
      rw [e2] at h2
      rcases hv with hv | ⟨k', hv, hk'⟩
      · rw [hv]; exact hxv k h2
      · rw [hv]
        intro e
        injection e with e
        have := (World.ownsRow.lt hx k h2).2
        omega
end

/-- a matrix that can be read: r rows of c numbers -/
def MatAt (w : World) (v : Value) (r c : Nat) (g : Nat → Nat → Int) : Prop := ∃ vs : List Value, RowAt 1 w v r vs ∧ ∀ i, i < r → IntsAt w (vs.getD i undef) (rowF c (g i))
/-- a matrix of the call's own -/
def MatOwn (B : Nat) (w : World) (v : Value) (r c : Nat) (g : Nat → Nat → Int) : Prop := ∃ vs : List Value, vs.length = r ∧ RowsOwn B w v vs (fun i => rowF c (g i))

section
variable {B r c : Nat} {w w' : World} {v : Value} {g g' : Nat → Nat → Int}
theorem MatAt.below (h : MatAt w v r c g) (hb : Below w.heap.size w w') : MatAt w' v r c g := by
  obtain ⟨vs, h1, h2⟩ := h
  exact ⟨vs, h1.below hb, fun i hi => (h2 i hi).below hb⟩
theorem MatOwn.below (h : MatOwn B w v r c g) (hb : Below w.heap.size w w') : MatOwn B w' v r c g := by
  obtain ⟨vs, h1, h2⟩ := h
  exact ⟨vs, h1, h2.below hb⟩
theorem MatOwn.mono {B' : Nat} (h : MatOwn B w v r c g) (hB : B' ≤ B) : MatOwn B' w v r c g := by
  obtain ⟨vs, h1, h2⟩ := h
  exact ⟨vs, h1, h2.mono hB⟩
theorem MatOwn.congr (h : MatOwn B w v r c g) (e : ∀ i k, i < r → k < c → g i k = g' i k) : MatOwn B w v r c g' := by
  obtain ⟨vs, h1, h2⟩ := h
  exact ⟨vs, h1, h2.congr fun i hi => rowF_congr fun k hk => e i k (by omega) hk⟩
theorem MatAt.congr (h : MatAt w v r c g) (e : ∀ i k, i < r → k < c → g i k = g' i k) : MatAt w v r c g' := by
  obtain ⟨vs, h1, h2⟩ := h
  exact ⟨vs, h1, fun i hi => by have := h2 i hi; rwa [rowF_congr fun k hk => e i k hi hk] at this⟩
theorem MatOwn.at_ (h : MatOwn B w v r c g) : MatAt w v r c g := by
  obtain ⟨vs, h1, h2⟩ := h
  exact ⟨vs, by have := RowAt.of_own h2.out; rwa [h1] at this, fun i hi => (h2.row i (by omega)).at_⟩
theorem MatAt.form (h : MatAt w v r c g) : ∃ a cap, v = .slice a r cap := by
  obtain ⟨vs, h1, h2⟩ := h
  exact RowAt.len h1
theorem MatAt.max (h : MatAt w v r c g) : r ≤ 9223372036854775807 := by
  obtain ⟨vs, h1, h2⟩ := h
  exact h1.max
theorem IntsAt.form {l : List Int} (h : IntsAt w v l) : ∃ a cap, v = .slice a l.length cap := RowAt.len h
/-- a row of a matrix -/
theorem MatAt.row {a : Option Addr} {n cap : Nat} (h : MatAt w (.slice a n cap) r c g) {i : Nat} (hi : i < r) :
    ∃ b off a1 c1, a = some ⟨b, off, none⟩ ∧ b < w.heap.size ∧ w.cell? ⟨b, off + i, none⟩ = some (.slice a1 c c1) ∧ IntsAt w (.slice a1 c c1) (rowF c (g i)) := by
  obtain ⟨vs, h1, h2⟩ := h
  have hl : vs.length = r := by have := h1.1; omega
  have h3 := h2 i hi
  obtain ⟨a1, c1, e1⟩ := h3.form
  rw [rowF_len] at e1
  obtain ⟨_, a', cap', e, _, _, h4⟩ := h1
  injection e with e2 _ _
  subst e2
  rcases h4 with h0 | ⟨b, off, rfl, hb, hc⟩
  · omega
  · refine ⟨b, off, a1, c1, rfl, hb, ?_, by rwa [e1] at h3⟩
    rw [← e1]
    exact hc i _ (by simp [List.getD, show i < vs.length by omega])
/-- an element of a row -/
theorem rowAt_at {a1 : Option Addr} {n1 c1 : Nat} {f : Nat → Int} (h : IntsAt w (.slice a1 n1 c1) (rowF c f)) {k : Nat} (hk : k < c) : ∃ b off, a1 = some ⟨b, off, none⟩ ∧ b < w.heap.size ∧ w.cell? ⟨b, off + k, none⟩ = some (.int .i64 (f k)) :=
  IntsAt.at_ h (rowF_get f hk)
end
end Go.Proofs.Ytpbbdnicafifpaa

/-! ## MxB -/
namespace Go.Proofs.Ytpbbdnicafifpaa
open Go.RowKit
set_option linter.unusedVariables false

theorem run_make_rows (t : TypeId) (ht : Try.prog.underlying t = some (.slice 39)) (r : Nat) (hr : r ≤ 1000000) (w : World) :
    ∃ w', (Instr.makeSlice t (.int .i64 (r : Int)) (.int .i64 (r : Int))).run Try.prog w = .ok (.slice (some ⟨w.heap.size, 0, none⟩) r r) w' ∧ RowsOwn w.heap.size w' (.slice (some ⟨w.heap.size, 0, none⟩) r r) (List.replicate r (.slice none 0 0)) (fun _ => []) ∧ Below w.heap.size w w' := by
  obtain ⟨i0, hi0, hz0, hz1, hz2⟩ := info_parts Try.infoIs
  obtain ⟨w', h1, h2, h3⟩ := run_make_full (P := Try.prog) w w.heap.size t 39 i0 _ 1 ht hi0 hz0 hz1 .i64 .i64 r (by rw [hz2]; omega) (by unfold maxLen; omega) (Nat.le_refl _)
  refine ⟨w', h1, RowsOwn.start ?_, ⟨h3.os, h3.tape, h3.output, h3.size, fun k hk => h3.block k hk (by simp)⟩⟩
  have e : List.replicate r (Value.slice none 0 0) = (madeCells (Value.slice none 0 0).cells (r * 1)).toList := by
    have : (Value.slice none 0 0).cells = #[.slice none 0 0] := rfl
    rw [this, toList_madeCells_one, Nat.mul_one]
  rw [e]
  exact h2

set_option maxRecDepth 100000 in
set_option maxHeartbeats 4000000 in
theorem noughts_any (r c : Nat) (hr : r ≤ 1000000) (hc : c ≤ 1000000) (w : World) :
    Calls Try.prog 44 #[.int .i64 r, .int .i64 c] w fun e w' => ∃ b, e = .returned (.slice (some ⟨b, 0, none⟩) r r) ∧ MatOwn w.heap.size w' (.slice (some ⟨b, 0, none⟩) r r) r c (fun _ _ => 0) ∧ Below w.heap.size w w' := by
  obtain ⟨w1, hmk, ho, hb⟩ := run_make_rows 34 Try.underlying34 r hr w
  have Ho := Lib.hid ho
  have Hb := Lib.hid hb
  clear ho hb
  go_enter Try.func44, Try.ntmps44
  go_wp2
  clear hmk
  go_loopw [11] (fun i wr => ∃ k : Nat, k ≤ r ∧ i = .int .i64 k ∧ (∃ vs : List Value, vs.length = r ∧ RowsOwn w.heap.size wr (.slice (some ⟨w.heap.size, 0, none⟩) r r) vs (fun j => if j < k then List.replicate c 0 else [])) ∧ Below w.heap.size w wr) (fun i _ => r - (intOf i).toNat)
  case atStart => exact ⟨0, by omega, rfl, ⟨_, by simp, Ho.out.congr fun i hi => by simp⟩, Hb.out⟩
  case round =>
    rename World => v1
    obtain ⟨k, hk, rfl, ⟨vs, hvs, hrows⟩, hbw⟩ := hrel
    by_cases hlt : k < r
    · have hlti : (k : Int) < (r : Int) := by omega
      obtain ⟨w2, hmk2, ho2, hb2⟩ := run_make_ints c hc v1
      have hpl := hrows.outlt
      have hst := hrows.setRow (i := k) (by omega) (by omega) hb2 ho2
      obtain ⟨c0, f0⟩ := (hrows.below hb2).place (i := k) (by omega)
      have Hst := Lib.hid hst
      have Hrows := Lib.hid hrows
      have Hvs := Lib.hid hvs
      have Hbw := Lib.hid hbw
      have hsz : w.heap.size ≤ v1.heap.size := hbw.size
      clear hst hrows hvs hbw ho2 hb2 hpl
      go_wp2
      go_roundw
      case rel => exact ⟨k + 1, by omega, by go_num, ⟨_, by simp [Hvs.out], Hst.out.1.congr fun i hi => by
        by_cases e : i = k
        · simp [e]
        · simp only [if_neg e]
          by_cases e2 : i < k
          · rw [if_pos e2, if_pos (by omega)]
          · rw [if_neg e2, if_neg (by omega)]⟩, Hbw.out.trans (Hst.out.2.below (fun j e => by omega) hsz)⟩
      case measure => simp [intOf]; omega
    · have Hrows := Lib.hid hrows
      have Hbw := Lib.hid hbw
      have hge : ¬ (k : Int) < (r : Int) := by omega
      have Hm : Hid (MatOwn w.heap.size v1 (.slice (some ⟨w.heap.size, 0, none⟩) r r) r c (fun _ _ => 0)) := Lib.hid ⟨vs, hvs, hrows.congr fun i hi => by rw [if_pos (by omega), rowF_zero]⟩
      clear hrows hbw hvs
      go_wp2
      go_ret
      exact ⟨_, rfl, Hm.out, Hbw.out⟩

def widthN (r c : Nat) : Nat := if r = 0 then 0 else c

set_option maxRecDepth 100000 in
set_option maxHeartbeats 4000000 in
theorem width_any {w : World} {a : Option Addr} {r c cap : Nat} {g : Nat → Nat → Int} (h : MatAt w (.slice a r cap) r c g) :
    Calls Try.prog 46 #[.slice a r cap] w fun e w' => e = .returned (.int .i64 (widthN r c : Nat)) ∧ w = w' := by
  have hr := h.max
  by_cases h0 : r = 0
  · subst h0
    clear h
    go_enter Try.func46, Try.ntmps46
    go_wp2
    go_ret
    exact ⟨rfl, rfl⟩
  · have hw : widthN r c = c := by simp [widthN, h0]
    rw [hw]
    have hne : ((r : Int) == 0) = false := by simp; omega
    have H := Lib.hid h
    obtain ⟨b, off, a1, c1, rfl, hb, e0, hi⟩ := h.row (i := 0) (by omega)
    rw [Nat.add_zero] at e0
    have hpos : (0 : Int) < (r : Int) := by omega
    have hposn : 0 < r := by omega
    clear h hw h0 hi
    go_enter Try.func46, Try.ntmps46
    go_wp2
    go_loop [3, 15] (fun m i => ∃ k : Nat, k ≤ r ∧ m = .int .i64 (c : Int) ∧ i = .int .i64 k) (fun _ i => r - (intOf i).toNat)
    case atStart => exact ⟨0, by omega, rfl, rfl⟩
    case round =>
      obtain ⟨k, hk, rfl, rfl⟩ := hrel
      by_cases hlt : k < r
      · have hlti : (k : Int) < (r : Int) := by omega
        obtain ⟨b', off', a1, c1, e, hb, e1, hi⟩ := H.out.row (i := k) hlt
        injection e with e
        injection e with e2 e3 _
        subst e2 e3
        clear hi
        go_wp2
        go_round
        case rel => exact ⟨k + 1, by omega, by simp, by go_num⟩
        case measure => simp [intOf]; omega
      · have hge : ¬ (k : Int) < (r : Int) := by omega
        go_wp2
        go_ret
        exact ⟨rfl, rfl⟩
end Go.Proofs.Ytpbbdnicafifpaa

/-! ## MxC -/
namespace Go.Proofs.Ytpbbdnicafifpaa
open Go.RowKit
set_option linter.unusedVariables false

theorem OwnI.form1 {B : Nat} {w : World} {v : Value} {l : List Int} (h : OwnI B w v l) (hl : 0 < l.length) : ∃ b c, v = .slice (some ⟨b, 0, none⟩) l.length c := by
  rcases h.2 with ⟨_, h0⟩ | ⟨r, cap, cur, e, _⟩
  · omega
  · exact ⟨r, cap, e⟩

theorem IntsAt.reads {w : World} {a : Option Addr} {n c : Nat} {l : List Int} (h : IntsAt w (.slice a n c) l) : Reads w a l := by
  obtain ⟨_, a', cap, e, h1, h2, h3⟩ := h
  injection e with e1 _ _
  subst e1
  rcases h3 with h0 | ⟨b, off, rfl, hb, hc⟩
  · exact .inl (List.eq_nil_of_length_eq_zero h0)
  · refine .inr ⟨b, off, rfl, hb, fun i hi => hc i _ ?_⟩
    rw [flat_intL]
    simp [hi]

/-- turned so far: all columns ahead of k, and the first j numbers of k -/
def turnTo (g : Nat → Nat → Int) (k j : Nat) (i m : Nat) : Int := if i < k ∨ (i = k ∧ m < j) then g m i else 0

set_option maxRecDepth 100000 in
set_option maxHeartbeats 4000000 in
theorem turn_any {w : World} {a : Option Addr} {r c cap : Nat} {g : Nat → Nat → Int} (h : MatAt w (.slice a r cap) r c g) (hr : r ≤ 1000000) (hc : c ≤ 1000000) (wd : Nat) (hwd : wd = widthN r c) :
    Calls Try.prog 18 #[.slice a r cap] w fun e w' => ∃ b, e = .returned (.slice (some ⟨b, 0, none⟩) wd wd) ∧ MatOwn w.heap.size w' (.slice (some ⟨b, 0, none⟩) wd wd) wd r (fun i j => g j i) ∧ Below w.heap.size w w' := by
  have Hw := Lib.hid (width_any h)
  rw [← hwd] at Hw
  have hwc : wd ≤ c := by rw [hwd]; unfold widthN; split <;> omega
  have H := Lib.hid h
  clear h hwd
  go_enter Try.func18, Try.ntmps18
  go_wp2_with (go_at_call 46; refine Hw.out.mono ?_; rintro e w' ⟨rfl, rfl⟩)
  refine (noughts_any wd r (by omega) hr _).mono ?_
  rintro e w1 ⟨b, rfl, hm, hb⟩
  obtain ⟨vs, hvs, hrows⟩ := hm
  have Hvs := Lib.hid hvs
  have Hr0 := Lib.hid hrows
  have Hb0 := Lib.hid hb
  clear hvs hrows hb
  go_wp2
  go_loopw [14] (fun i wr => ∃ k : Nat, k ≤ wd ∧ i = .int .i64 k ∧ RowsOwn w.heap.size wr (.slice (some ⟨b, 0, none⟩) wd wd) vs (fun i => rowF r (turnTo g k 0 i)) ∧ Below w.heap.size w wr) (fun i _ => wd - (intOf i).toNat)
  case atStart => exact ⟨0, by omega, rfl, Hr0.out.congr fun i hi => rowF_congr fun j hj => by simp [turnTo], Hb0.out⟩
  case round =>
    rename World => v1
    obtain ⟨k, hk, rfl, ho, hb⟩ := hrel
    by_cases hlt : k < wd
    · have hlti : (k : Int) < (wd : Int) := by omega
      have hkv : k < vs.length := by rw [Hvs.out]; exact hlt
      obtain ⟨c0, f0⟩ := ho.place hkv
      obtain ⟨a1, c1, e1⟩ := ho.rowform hkv
      rw [rowF_len] at e1
      rw [e1] at c0
      have hlb := ho.outlt.2
      have E1 := Lib.hid e1
      have Ho := Lib.hid ho
      have Hb := Lib.hid hb
      clear e1 ho hb f0
      go_wp2
      clear c0
      go_loopw [21] (fun i wr => ∃ j : Nat, j ≤ r ∧ i = .int .i64 j ∧ RowsOwn w.heap.size wr (.slice (some ⟨b, 0, none⟩) wd wd) vs (fun i => rowF r (turnTo g k j i)) ∧ Below w.heap.size w wr) (fun i _ => r - (intOf i).toNat)
      case atStart => exact ⟨0, by omega, rfl, Ho.out, Hb.out⟩
      case round =>
        rename World => v2
        obtain ⟨j, hj, rfl, ho, hb⟩ := hrel
        by_cases hltj : j < r
        · have hltji : (j : Int) < (r : Int) := by omega
          obtain ⟨b2, off2, a2, c2, rfl, hb2, e0, hi2⟩ := (H.out.below hb).row hltj
          obtain ⟨b3, off3, rfl, hb3, e3⟩ := rowAt_at hi2 (k := k) (by omega)
          have hkc : k < c := by omega
          have hkci : (k : Int) < (c : Int) := by omega
          obtain ⟨b4, c4, e4⟩ := OwnI.form1 (ho.row k hkv) (by rw [rowF_len]; omega)
          rw [E1.out] at e4
          rw [rowF_len] at e4
          injection e4 with e4 _ _
          subst e4
          have hrow := ho.row k hkv
          rw [E1.out] at hrow
          have hrl := hrow.lt
          have c5 := hrow.cell (rowF_get _ hltj)
          have f5 := hrow.froz j
          have hst := ho.setAt (z := g j k) hkv E1.out (k := j) (by rw [rowF_len]; exact hltj)
          have Hst := Lib.hid hst
          have Hb2 := Lib.hid hb
          have hsz : w.heap.size ≤ v2.heap.size := hb.size
          clear hst hrow ho hb hi2
          go_wp2
          go_roundw
          case rel => exact ⟨j + 1, by omega, by go_num, Hst.out.1.congr fun i hi => by
            by_cases e : i = k
            · subst e
              simp only [if_true]
              rw [rowF_set]
              exact rowF_congr fun m hm => by
                unfold turnTo
                by_cases e2 : m = j
                · subst e2; simp
                · rw [if_neg e2]
                  by_cases e3 : m < j
                  · rw [if_pos (.inr ⟨rfl, e3⟩), if_pos (.inr ⟨rfl, by omega⟩)]
                  · rw [if_neg (by omega), if_neg (by omega)]
            · simp only [if_neg e]
              exact rowF_congr fun m hm => by
                unfold turnTo
                by_cases e2 : i < k
                · rw [if_pos (.inl e2), if_pos (.inl e2)]
                · rw [if_neg (by omega), if_neg (by omega)], Hb2.out.trans (Hst.out.2.below (fun j e => by omega) hsz)⟩
          case measure => simp [intOf]; omega
        · have hgej : ¬ (j : Int) < (r : Int) := by omega
          have Ho2 : Hid (RowsOwn w.heap.size v2 (.slice (some ⟨b, 0, none⟩) wd wd) vs (fun i => rowF r (turnTo g (k + 1) 0 i))) := Lib.hid (ho.congr fun i hi => rowF_congr fun m hm => by
            unfold turnTo
            by_cases e2 : i < k ∨ (i = k ∧ m < j)
            · rw [if_pos e2, if_pos (by omega)]
            · rw [if_neg e2, if_neg (by omega)])
          have Hb2 := Lib.hid hb
          clear ho hb
          go_wp2
          go_roundw
          case rel => exact ⟨k + 1, by omega, by go_num, Ho2.out, Hb2.out⟩
          case measure => simp [intOf]; omega
    · have hge : ¬ (k : Int) < (wd : Int) := by omega
      have Hm : Hid (MatOwn w.heap.size v1 (.slice (some ⟨b, 0, none⟩) wd wd) wd r (fun i j => g j i)) := Lib.hid ⟨vs, Hvs.out, ho.congr fun i hi => rowF_congr fun j hj => by unfold turnTo; rw [if_pos (by have := Hvs.out; omega)]⟩
      have Hb := Lib.hid hb
      clear ho hb
      go_wp2
      go_ret
      exact ⟨_, rfl, Hm.out, Hb.out⟩

/-- are all noughts? -/
def zeroB (l : List Int) : Bool := l.all (fun x => x == 0)

set_option maxRecDepth 100000 in
set_option maxHeartbeats 4000000 in
theorem zero_any {w : World} {a : Option Addr} {n cap : Nat} {l : List Int} (hn : n = l.length) (h : IntsAt w (.slice a n cap) l) (q : Bool) (hq : q = zeroB l) :
    Calls Try.prog 25 #[.slice a n cap] w fun e w' => e = .returned (.bool q) ∧ w = w' := by
  have hx : n ≤ 9223372036854775807 := by have := RowAt.max h; omega
  have Hn := Lib.hid hn
  have H := Lib.hid h
  have Hq := Lib.hid hq
  clear hn h hq
  go_enter Try.func25, Try.ntmps25
  go_wp2
  go_loop [7] (fun i => ∃ k : Nat, k ≤ n ∧ i = .int .i64 k ∧ Hid (zeroB l = zeroB (l.drop k))) (fun i => n - (intOf i).toNat)
  case atStart => exact ⟨0, by omega, rfl, Lib.hid rfl⟩
  case round =>
    obtain ⟨k, hk, rfl, Hk⟩ := hrel
    by_cases hlt : k < n
    · have hlti : (k : Int) < (n : Int) := by omega
      obtain ⟨x, hx⟩ := at_lt (l := l) (k := k) (by rw [← Hn.out]; exact hlt)
      obtain ⟨b, off, rfl, hb, e0⟩ := IntsAt.at_ H.out hx
      have hd := drop_at hx
      cases hz : (x == 0) with
      | true =>
        have hz2 : (x != 0) = false := by simpa using hz
        have Hk2 : Hid (zeroB l = zeroB (l.drop (k + 1))) := Lib.hid (by rw [Hk.out, hd]; simp [zeroB, hz])
        clear hd hx hz Hk
        go_wp2
        go_round
        case rel => exact ⟨k + 1, by omega, by go_num, Hk2⟩
        case measure => simp [intOf]; omega
      | false =>
        have hz2 : (x != 0) = true := by simpa using hz
        have Hk2 : Hid (q = false) := Lib.hid (by rw [Hq.out, Hk.out, hd]; simp [zeroB, hz])
        clear hd hx hz Hk
        go_wp2
        go_ret
        rw [Hk2.out]
        exact ⟨rfl, rfl⟩
    · have hge : ¬ (k : Int) < (n : Int) := by omega
      have Hk2 : Hid (q = true) := Lib.hid (by rw [Hq.out, Hk.out, List.drop_of_length_le (by rw [← Hn.out]; omega)]; rfl)
      clear Hk
      go_wp2
      go_ret
      rw [Hk2.out]
      exact ⟨rfl, rfl⟩

def goodR (c : Nat) (g : Nat → Nat → Int) (xl : List Int) (i : Nat) : Prop := c = xl.length ∧ (dots 0 (rowF c (g i)) xl).isSome = true
def dvR (c : Nat) (g : Nat → Nat → Int) (xl : List Int) (i : Nat) : Int := (dots 0 (rowF c (g i)) xl).getD 0
/-- what Right answers: a list with each row's sum of products, or nothing, where a row doesn't fit, or its sum is no int -/
def RightRes (B r c : Nat) (g : Nat → Nat → Int) (xl : List Int) (e : Ending) (w' : World) : Prop :=
  ((∀ i, i < r → goodR c g xl i) ∧ ∃ b, e = .returned (.tuple #[.slice (some ⟨b, 0, none⟩) r r, .bool true]) ∧ OwnI B w' (.slice (some ⟨b, 0, none⟩) r r) (rowF r (dvR c g xl))) ∨
  ((∃ i, i < r ∧ ¬ goodR c g xl i) ∧ e = .returned (.tuple #[.slice none 0 0, .bool false]))
def I64M (r c : Nat) (g : Nat → Nat → Int) : Prop := ∀ i k, i < r → k < c → I64 (g i k)
theorem I64M.row {r c : Nat} {g : Nat → Nat → Int} (h : I64M r c g) {i : Nat} (hi : i < r) : Ints (rowF c (g i)) := by
  intro x hx
  unfold rowF at hx
  rw [List.mem_map] at hx
  obtain ⟨k, hk, rfl⟩ := hx
  exact h i k hi (List.mem_range.1 hk)

theorem dotW {w : World} {a b : Option Addr} {n m ca cb : Nat} {xs ys : List Int} (hn : n = xs.length) (hm : m = ys.length) (ha : IntsAt w (.slice a n ca) xs) (hb : IntsAt w (.slice b m cb) ys) (hxs : Ints xs) (hys : Ints ys) (hlx : n ≤ 1000000) (hly : m ≤ 1000000) (v : Value) (hv : v = dotV (dots 0 xs ys)) :
    Calls Try.prog 48 #[.slice a n ca, .slice b m cb] w fun e w' => e = .returned v ∧ Below w.heap.size w w' := by
  subst hn hm hv
  exact (dot_any a b ca cb xs ys w ha.reads hb.reads hxs hys hlx hly).mono fun e w' ⟨h1, k, h2⟩ => ⟨h1, h2 ▸ drewNb w k⟩
theorem rdotW {w : World} {a b : Option Addr} {n m ca cb : Nat} {xs ys : List Int} (hn : n = xs.length) (hm : m = ys.length) (ha : IntsAt w (.slice a n ca) xs) (hb : IntsAt w (.slice b m cb) ys) (hxs : Ints xs) (hys : Ints ys) (hlx : n ≤ 1000000) (hly : m ≤ 1000000) (v : Value) (hv : v = dotV (dots 0 xs ys)) :
    Calls Try.prog 24 #[.slice a n ca, .slice b m cb] w fun e w' => e = .returned v ∧ Below w.heap.size w w' := by
  subst hn hm hv
  exact (rdot_any a b ca cb xs ys w ha.reads hb.reads hxs hys hlx hly).mono fun e w' ⟨h1, k, h2⟩ => ⟨h1, h2 ▸ drewNb w k⟩

/-- the first k sums, then noughts -/
def prodTo (c : Nat) (g : Nat → Nat → Int) (xl : List Int) (k i : Nat) : Int := if i < k then dvR c g xl i else 0

set_option maxRecDepth 100000 in
set_option maxHeartbeats 4000000 in
theorem right_any {w : World} {a ax : Option Addr} {r c cap n cx : Nat} {g : Nat → Nat → Int} {xl : List Int} (h : MatAt w (.slice a r cap) r c g) (hn : n = xl.length) (hx : IntsAt w (.slice ax n cx) xl) (hr : r ≤ 1000000) (hc : c ≤ 1000000) (hnl : n ≤ 1000000) (hg : I64M r c g) (hxl : Ints xl) :
    Calls Try.prog 23 #[.slice a r cap, .slice ax n cx] w fun e w' => RightRes w.heap.size r c g xl e w' ∧ Below w.heap.size w w' := by
  obtain ⟨w1, hmk, ho1, hb1⟩ := run_make_ints r hr w
  have H := Lib.hid h
  have Hn := Lib.hid hn
  have Hx := Lib.hid hx
  have Hg := Lib.hid hg
  have Hxl := Lib.hid hxl
  have Ho1 := Lib.hid ho1
  have Hb1 := Lib.hid hb1
  clear h hn hx hg hxl ho1 hb1
  go_enter Try.func23, Try.ntmps23
  go_wp2
  clear hmk
  go_loopw [16] (fun i wr => ∃ k : Nat, k ≤ r ∧ i = .int .i64 k ∧ OwnI w.heap.size wr (.slice (some ⟨w.heap.size, 0, none⟩) r r) (rowF r (prodTo c g xl k)) ∧ Below w.heap.size w wr ∧ Hid (∀ i, i < k → goodR c g xl i)) (fun i _ => r - (intOf i).toNat)
  case atStart => exact ⟨0, by omega, rfl, by have := Ho1.out; rw [rowF_zero] at this; rwa [rowF_congr (g := prodTo c g xl 0) fun j hj => by simp [prodTo]] at this, Hb1.out, Lib.hid fun i hi => by omega⟩
  case round =>
    rename World => v1
    obtain ⟨k, hk, rfl, ho, hb, Hk⟩ := hrel
    by_cases hlt : k < r
    · have hlti : (k : Int) < (r : Int) := by omega
      obtain ⟨b2, off2, a2, c2, rfl, hb2, e0, hi2⟩ := (H.out.below hb).row hlt
      have Hi2 := Lib.hid hi2
      have Ho := Lib.hid ho
      have Hb := Lib.hid hb
      have hos := ho.lt.2
      clear hi2 ho hb
      by_cases hcn : c = n
      · subst hcn
        obtain ⟨dv, hdv⟩ : ∃ d, d = dots 0 (rowF c (g k)) xl := ⟨_, rfl⟩
        have Hdot := Lib.hid (dotW (rowF_len _ _).symm Hn.out Hi2.out (IntsAt.below Hx.out Hb.out) (Hg.out.row hlt) Hxl.out hc hnl _ rfl)
        rw [← hdv] at Hdot
        cases dv with
        | none =>
          have Hbad : Hid (¬ goodR c g xl k) := Lib.hid fun hg => by have := hg.2; rw [← hdv] at this; cases this
          simp only [dotV] at Hdot
          clear hdv
          go_wp2_with (go_at_call 48; refine Hdot.out.mono ?_; rintro e w' ⟨rfl, hb⟩; have Hb3 := Lib.hid hb; clear hb)
          go_ret2
          exact ⟨.inr ⟨⟨k, hlt, Hbad.out⟩, rfl⟩, Hb.out.trans (Hb3.out.mono Hb.out.size)⟩
        | some s =>
          have Hgood : Hid (goodR c g xl k) := Lib.hid ⟨Hn.out, by rw [← hdv]; rfl⟩
          have Hs : Hid (dvR c g xl k = s) := Lib.hid (by unfold dvR; rw [← hdv]; rfl)
          simp only [dotV] at Hdot
          clear hdv
          go_wp2_with fail
          refine Hdot.out.mono ?_
          rintro e w3 ⟨rfl, hb⟩
          have ho3 := Ho.out.below hb
          have c0 := ho3.cell (rowF_get _ hlt)
          have f0 := ho3.froz k
          have hst := ho3.set k s (by rw [rowF_len]; exact hlt)
          rw [rowF_set] at hst
          have Hst := Lib.hid hst
          have Hb3 := Lib.hid (Hb.out.trans (hb.mono Hb.out.size))
          have hsz : w.heap.size ≤ w3.heap.size := Hb3.out.size
          clear hst ho3 hb
          go_wp2
          go_roundw
          case rel => exact ⟨k + 1, by omega, by go_num, by
            have := Hst.out.1
            rwa [rowF_congr (g := prodTo c g xl (k + 1)) fun j hj => by
              unfold prodTo
              by_cases e : j = k
              · subst e; rw [if_pos rfl, if_pos (by omega), Hs.out]
              · rw [if_neg e]
                by_cases e2 : j < k
                · rw [if_pos e2, if_pos (by omega)]
                · rw [if_neg e2, if_neg (by omega)]] at this, Hb3.out.trans (Hst.out.2.below (fun j e => by omega) hsz), Lib.hid fun i hi => by
              by_cases e : i = k
              · rw [e]; exact Hgood.out
              · exact Hk.out i (by omega)⟩
          case measure => simp [intOf]; omega
      · have hne : ((c : Int) != (n : Int)) = true := by simp; omega
        have Hbad : Hid (¬ goodR c g xl k) := Lib.hid fun hg => hcn (by rw [Hn.out]; exact hg.1)
        clear hcn
        go_wp2
        go_ret2
        exact ⟨.inr ⟨⟨k, hlt, Hbad.out⟩, rfl⟩, Hb.out⟩
    · have hge : ¬ (k : Int) < (r : Int) := by omega
      have Ho : Hid (OwnI w.heap.size v1 (.slice (some ⟨w.heap.size, 0, none⟩) r r) (rowF r (dvR c g xl))) := Lib.hid (by rwa [rowF_congr (g := dvR c g xl) fun j hj => by unfold prodTo; rw [if_pos (by omega)]] at ho)
      have Hb := Lib.hid hb
      clear ho hb
      go_wp2
      go_ret2
      exact ⟨.inl ⟨fun i hi => Hk.out i (by omega), _, rfl, Ho.out⟩, Hb.out⟩

/-- what Left answers -/
def LeftRes (B r c : Nat) (g : Nat → Nat → Int) (yl : List Int) (e : Ending) (w' : World) : Prop :=
  (yl.length = r ∧ RightRes B (widthN r c) r (fun i j => g j i) yl e w') ∨ (yl.length ≠ r ∧ e = .returned (.tuple #[.slice none 0 0, .bool false]))

theorem RightRes.mono {B B' r c : Nat} {g : Nat → Nat → Int} {xl : List Int} {e : Ending} {w' : World} (h : RightRes B r c g xl e w') (hB : B' ≤ B) : RightRes B' r c g xl e w' := by
  rcases h with ⟨h1, b, h2, h3⟩ | h
  · exact .inl ⟨h1, b, h2, own_mono h3 hB⟩
  · exact .inr h

set_option maxRecDepth 100000 in
set_option maxHeartbeats 4000000 in
theorem left_any {w : World} {a ax : Option Addr} {r c cap n cx : Nat} {g : Nat → Nat → Int} {yl : List Int} (h : MatAt w (.slice a r cap) r c g) (hn : n = yl.length) (hx : IntsAt w (.slice ax n cx) yl) (hr : r ≤ 1000000) (hc : c ≤ 1000000) (hnl : n ≤ 1000000) (hg : I64M r c g) (hyl : Ints yl) :
    Calls Try.prog 22 #[.slice ax n cx, .slice a r cap] w fun e w' => LeftRes w.heap.size r c g yl e w' ∧ Below w.heap.size w w' := by
  by_cases hnr : n = r
  · have hne : ((n : Int) != (r : Int)) = false := by simp [hnr]
    have Hturn := Lib.hid (turn_any h hr hc _ rfl)
    have Hlen : Hid (yl.length = r) := Lib.hid (by rw [← hn, hnr])
    have hwd : widthN r c ≤ 1000000 := by unfold widthN; split <;> omega
    have Hr : Hid (∀ (W : World) (b : Nat), Below w.heap.size w W → MatOwn w.heap.size W (.slice (some ⟨b, 0, none⟩) (widthN r c) (widthN r c)) (widthN r c) r (fun i j => g j i) → Calls Try.prog 23 #[.slice (some ⟨b, 0, none⟩) (widthN r c) (widthN r c), .slice ax n cx] W fun e w' => RightRes W.heap.size (widthN r c) r (fun i j => g j i) yl e w' ∧ Below W.heap.size W w') :=
      Lib.hid fun W b hb hm => right_any hm.at_ hn (hx.below hb) hwd hr hnl (fun i k hi hk => hg k i hk (by unfold widthN at hi; split at hi <;> omega)) hyl
    clear h hn hx hg hyl
    obtain ⟨wd, hw⟩ : ∃ wd, wd = widthN r c := ⟨_, rfl⟩
    rw [← hw] at Hturn Hr
    have Hw := Lib.hid hw
    subst hnr
    clear hwd hw hne
    go_enter Try.func22, Try.ntmps22
    go_wp2_with fail
    refine Hturn.out.mono ?_
    rintro e w1 ⟨b, rfl, hm, hb⟩
    have Hr2 := Lib.hid (Hr.out w1 b hb hm)
    have Hb := Lib.hid hb
    clear hm hb
    go_wp2_with fail
    refine Hr2.out.mono ?_
    rintro e w2 ⟨hres, hb⟩
    have Hb2 := Lib.hid (Hb.out.trans (hb.mono Hb.out.size))
    have Hres := Lib.hid (hres.mono Hb.out.size)
    rcases hres with ⟨_, b2, rfl, _⟩ | ⟨_, rfl⟩
    all_goals
      clear hb
      go_wp2
      go_ret2
      exact ⟨.inl ⟨Hlen.out, by rw [← Hw.out]; exact Hres.out⟩, Hb2.out⟩
  · have hne : ((n : Int) != (r : Int)) = true := by simp; omega
    have Hlen : Hid (yl.length ≠ r) := Lib.hid (by rw [← hn]; exact hnr)
    clear h hn hx hg hyl hnr
    go_enter Try.func22, Try.ntmps22
    go_wp2
    go_ret2
    exact ⟨.inr ⟨Hlen.out, rfl⟩, Below.refl _ _⟩
end Go.Proofs.Ytpbbdnicafifpaa
