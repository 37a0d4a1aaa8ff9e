/-
  Plain facts on an engine that is new: who looks at which place; several new rows beside others.
  Conditions: none beyond each theorem's own.
-/
import Derived.Test.YtpbbdnicafifpaaEgQ
namespace Go.Proofs.Ytpbbdnicafifpaa
open Go.RowKit
set_option linter.unusedVariables false

theorem AllOwn.adds {B : Nat} {w w' : World} {rs rs' : List Row} (h : AllOwn B w rs) (hb : Below w.heap.size w w') (h2 : AllOwn w.heap.size w' rs') (hB : B ≤ w.heap.size) : AllOwn B w' (rs' ++ rs) := by
  have g := h.below hb
  refine ⟨fun x hx => ?_, ?_⟩
  · rcases List.mem_append.1 hx with hx | hx
    · exact own_mono (h2.own x hx) hB
    · exact g.own x hx
  · rw [List.pairwise_append]
    refine ⟨h2.apart, g.apart, fun a ha b hb k h1 h3 => ?_⟩
    have := (Row.lt (h2.own a ha) h1).1
    have := (Row.lt (h.own b hb) h3).2
    omega
theorem AllOwn.nils {B : Nat} {w : World} (m : Nat) : AllOwn B w ((List.replicate m (Value.slice none 0 0, ([] : List Int))).map (fun x => intRow x.1 x.2)) := by
  rw [List.map_replicate]
  refine ⟨fun x hx => ?_, ?_⟩
  · rw [List.eq_of_mem_replicate hx]
    exact World.ownsRow_nil _ _ _ _
  · exact List.pairwise_replicate.2 (.inr (fun k h1 _ => by cases h1))

/-! who looks where -/
theorem eyeL_get2 {L : List (List Int)} {p q : Nat} {i : Int} (hp : p < L.length) : (eyeL L p i)[q]? = (L[q]?).map (fun l => if q = p then l ++ [i] else l) := by
  unfold eyeL
  rw [List.getElem?_set]
  by_cases e : p = q
  · subst e
    rw [if_pos rfl, if_pos hp]
    simp [List.getD, hp]
  · rw [if_neg e]
    cases h : L[q]? with
    | none => rfl
    | some l => simp [Ne.symm e]
theorem eyesL_in {l : List (Int × Int)} {i : Int} : ∀ {L : List (List Int)}, (∀ a ∈ l, 0 ≤ a.1 ∧ a.1 < (L.length : Int)) → ∀ (q : Nat) (el : List Int), L[q]? = some el → ∃ el', (eyesL L l i)[q]? = some el' ∧ el'.length ≤ el.length + l.length ∧ (∀ j, j ∈ el' ↔ j ∈ el ∨ (j = i ∧ ∃ a ∈ l, a.1 = (q : Int))) := by
  induction l with
  | nil => intro L _ q el h; exact ⟨el, h, by simp, fun j => by simp⟩
  | cons a l ih =>
    intro L hb q el h
    obtain ⟨h0, h1⟩ := hb a (by simp)
    have hlen : (eyeL L a.1.toNat i).length = L.length := by simp [eyeL]
    have hg := eyeL_get2 (L := L) (p := a.1.toNat) (q := q) (i := i) (by omega)
    rw [h] at hg
    simp only [Option.map_some] at hg
    obtain ⟨el', e1, e2, e3⟩ := ih (L := eyeL L a.1.toNat i) (fun b hb' => by rw [hlen]; exact hb b (by simp [hb'])) q _ hg
    refine ⟨el', e1, ?_, fun j => ?_⟩
    · rw [List.length_cons]
      split at e2
      · rw [List.length_append, List.length_singleton] at e2; omega
      · omega
    · rw [e3]
      by_cases e : q = a.1.toNat
      · have ea : a.1 = (q : Int) := by omega
        rw [if_pos e, List.mem_append, List.mem_singleton]
        constructor
        · rintro ((h | h) | ⟨h, b, hb', h2⟩)
          · exact .inl h
          · exact .inr ⟨h, a, by simp, ea⟩
          · exact .inr ⟨h, b, by simp [hb'], h2⟩
        · rintro (h | ⟨h, b, hb', h2⟩)
          · exact .inl (.inl h)
          · exact .inl (.inr h)
      · have ea : ¬ a.1 = (q : Int) := by omega
        rw [if_neg e]
        constructor
        · rintro (h | ⟨h, b, hb', h2⟩)
          · exact .inl h
          · exact .inr ⟨h, b, by simp [hb'], h2⟩
        · rintro (h | ⟨h, b, hb', h2⟩)
          · exact .inl h
          · rcases List.mem_cons.1 hb' with rfl | hb'
            · exact absurd h2 ea
            · exact .inr ⟨h, b, hb', h2⟩

/-- the first k transitions are entered, as far as they are the engine's own -/
structure EyesTo (ts : List Tr) (mine : Nat → Bool) (k : Nat) (L : List (List Int)) : Prop where
  small : ∀ el ∈ L, el.length ≤ 16 * k
  own : ∀ (p : Nat) el, L[p]? = some el → ∀ j ∈ el, (0 ≤ j ∧ j < (k : Int)) ∧ mine j.toNat = true
  all : ∀ (p : Nat) el, L[p]? = some el → ∀ i x, i < k → ts[i]? = some x → mine i = true → looks x (p : Int) → (i : Int) ∈ el
theorem EyesTo.start (ts : List Tr) (mine : Nat → Bool) (P : Nat) : EyesTo ts mine 0 (List.replicate P []) := by
  refine ⟨fun el h => ?_, fun p el h j hj => ?_, fun p el h i x hi => ?_⟩
  · rw [List.eq_of_mem_replicate h]; simp
  · rw [List.eq_of_mem_replicate (List.mem_of_getElem? h)] at hj; cases hj
  · omega
theorem EyesTo.skip {ts : List Tr} {mine : Nat → Bool} {k : Nat} {L : List (List Int)} (h : EyesTo ts mine k L) (hm : mine k = false) : EyesTo ts mine (k + 1) L := by
  refine ⟨fun el he => ?_, fun p el he j hj => ?_, fun p el he i x hi hx hmi hl => ?_⟩
  · have := h.small el he; omega
  · obtain ⟨h1, h2⟩ := h.own p el he j hj; exact ⟨by omega, h2⟩
  · by_cases e : i = k
    · subst e; rw [hm] at hmi; cases hmi
    · exact h.all p el he i x (by omega) hx hmi hl
theorem EyesTo.add {n : Nt} {mine : Nat → Bool} {k : Nat} {L : List (List Int)} {x : Tr} (hn : NOk n) (h : EyesTo n.trans mine k L) (hL : L.length = n.places.length) (hx : n.trans[k]? = some x) (hm : mine k = true) : EyesTo n.trans mine (k + 1) (eyesL (eyesL L x.inn (k : Int)) x.nt (k : Int)) := by
  have hmem := hn.at_ hx
  have h8 := hn.len x hmem
  have b1 : ∀ a ∈ x.inn, 0 ≤ a.1 ∧ a.1 < (L.length : Int) := fun a ha => by rw [hL]; exact (hn.inn x hmem a ha).1
  have b2 : ∀ a ∈ x.nt, 0 ≤ a.1 ∧ a.1 < ((eyesL L x.inn (k : Int)).length : Int) := fun a ha => by rw [eyesL_len, hL]; exact (hn.nt x hmem a ha).1
  have key : ∀ (p : Nat) el, (eyesL (eyesL L x.inn (k : Int)) x.nt (k : Int))[p]? = some el → ∃ e0, L[p]? = some e0 ∧ el.length ≤ e0.length + 16 ∧ ∀ j, j ∈ el ↔ j ∈ e0 ∨ (j = (k : Int) ∧ looks x (p : Int)) := by
    intro p el he
    have hp : p < L.length := by have := lt_at he; rw [eyesL_len, eyesL_len] at this; exact this
    obtain ⟨e0, h0⟩ := at_lt hp
    obtain ⟨e1, g1, l1, m1⟩ := eyesL_in b1 p e0 h0
    obtain ⟨e2, g2, l2, m2⟩ := eyesL_in b2 p e1 g1
    rw [he] at g2
    injection g2 with g2
    subst g2
    refine ⟨e0, h0, by omega, fun j => ?_⟩
    rw [m2, m1]
    unfold looks
    constructor
    · rintro ((h | ⟨h, a, ha, e⟩) | ⟨h, a, ha, e⟩)
      · exact .inl h
      · exact .inr ⟨h, .inl ⟨a, ha, e⟩⟩
      · exact .inr ⟨h, .inr ⟨a, ha, e⟩⟩
    · rintro (h | ⟨h, ⟨a, ha, e⟩ | ⟨a, ha, e⟩⟩)
      · exact .inl (.inl h)
      · exact .inl (.inr ⟨h, a, ha, e⟩)
      · exact .inr ⟨h, a, ha, e⟩
  refine ⟨fun el he => ?_, fun p el he j hj => ?_, fun p el he i y hi hy hmi hl => ?_⟩
  · obtain ⟨p, hp⟩ := List.mem_iff_getElem?.1 he
    obtain ⟨e0, h0, hl, _⟩ := key p el hp
    have := h.small e0 (List.mem_of_getElem? h0)
    omega
  · obtain ⟨e0, h0, _, hm2⟩ := key p el he
    rcases (hm2 j).1 hj with h1 | ⟨rfl, _⟩
    · obtain ⟨h2, h3⟩ := h.own p e0 h0 j h1; exact ⟨by omega, h3⟩
    · exact ⟨by omega, by simpa using hm⟩
  · obtain ⟨e0, h0, _, hm2⟩ := key p el he
    rw [hm2]
    by_cases e : i = k
    · subst e
      rw [hx] at hy; injection hy with hy; subst hy
      exact .inr ⟨rfl, hl⟩
    · exact .inl (h.all p e0 h0 i y (by omega) hy hmi hl)

/-- those of the first k that are the engine's own are queued -/
def qdTo (n k : Nat) (mine : Nat → Bool) : List Bool := (List.range n).map (fun j => decide (j < k) && mine j)
theorem qdTo_len (n k : Nat) (mine : Nat → Bool) : (qdTo n k mine).length = n := by simp [qdTo]
theorem qdTo_at {n k : Nat} {mine : Nat → Bool} {j : Nat} (hj : j < n) : qB (qdTo n k mine) j = (decide (j < k) && mine j) := by
  unfold qB qdTo; simp [List.getD, hj]
theorem qdTo_skip {n k : Nat} {mine : Nat → Bool} (hm : mine k = false) : qdTo n (k + 1) mine = qdTo n k mine := by
  unfold qdTo
  refine List.map_congr_left fun j hj => ?_
  by_cases e : j = k
  · subst e; rw [hm]; simp
  · have : decide (j < k + 1) = decide (j < k) := by simp; omega
    rw [this]
theorem qdTo_add {n k : Nat} {mine : Nat → Bool} (hk : k < n) (hm : mine k = true) : (qdTo n k mine).set k true = qdTo n (k + 1) mine := by
  apply List.ext_getElem?
  intro j
  rw [List.getElem?_set, qdTo_len]
  by_cases e : k = j
  · subst e
    rw [if_pos rfl, if_pos hk]
    unfold qdTo; simp [hk, hm]
  · rw [if_neg e]
    unfold qdTo
    by_cases hj : j < n
    · have : decide (j < k + 1) = decide (j < k) := by simp; omega
      simp [hj, this]
    · rw [List.getElem?_eq_none (by simp; omega), List.getElem?_eq_none (by simp; omega)]
end Go.Proofs.Ytpbbdnicafifpaa
