/-
  Plain facts on groups by their smallest elements: how the groups of the elements below a bound grow by one element.
  Conditions: none beyond each theorem's own.
-/
import Derived.Test.YthpcaamfcmjnmaaIMap
namespace Go.Proofs.Ythpcaamfcmjnmaa
set_option linter.unusedVariables false

/-- the smallest elements below i -/
def roots (rho : Nat → Nat) (i : Nat) : List Nat := (List.range i).filter (fun c => rho c == c)

/-- the groups of the elements below i -/
def groupsOf (rho : Nat → Nat) (i : Nat) : List (List Nat) := (roots rho i).map (fun r => (List.range i).filter (fun c => rho c == r))

/-- at which place each group stands -/
def idx (rho : Nat → Nat) (i : Nat) : Nat → Option Nat := fun c => if c < i ∧ rho c = c then some (roots rho c).length else none

section
variable {rho : Nat → Nat} {i : Nat}

theorem roots_succ : roots rho (i + 1) = roots rho i ++ (if rho i = i then [i] else []) := by
  unfold roots
  rw [List.range_succ, List.filter_append]
  by_cases h : rho i = i <;> simp [h]

theorem roots_len_le (rho : Nat → Nat) (i : Nat) : (roots rho i).length ≤ i := by
  have := List.length_filter_le (fun c => rho c == c) (List.range i)
  simpa [roots] using this

theorem groups_len (rho : Nat → Nat) (i : Nat) : (groupsOf rho i).length = (roots rho i).length := by simp [groupsOf]

theorem groups_row_le (rho : Nat → Nat) (i k : Nat) : ((groupsOf rho i).getD k []).length ≤ i := by
  unfold groupsOf
  by_cases hk : k < (roots rho i).length
  · have := List.length_filter_le (fun c => rho c == (roots rho i)[k]) (List.range i)
    simpa [List.getD, hk] using this
  · simp [List.getD, hk]

theorem roots_nodup (rho : Nat → Nat) (i : Nat) : (roots rho i).Nodup := List.nodup_range.filter _

theorem roots_lt {r : Nat} (h : r ∈ roots rho i) : r < i := by simp [roots] at h; exact h.1

theorem roots_at {r : Nat} (hr : rho r = r) : ∀ i, r < i → (roots rho i)[(roots rho r).length]? = some r := by
  intro i
  induction i with
  | zero => intro h; omega
  | succ i ih =>
    intro h
    rw [roots_succ]
    by_cases hri : r = i
    · subst hri
      simp [hr]
    · have := ih (by omega)
      rw [List.getElem?_append_left (List.getElem?_eq_some_iff.1 this).1]
      exact this

theorem idx_root (h : rho i = i) : idx rho (i + 1) = upd (idx rho i) i (roots rho i).length := by
  funext c
  unfold idx upd
  by_cases hc : c = i
  · subst hc; simp [h]
  · simp only [hc, if_false]
    by_cases h1 : c < i ∧ rho c = c
    · rw [if_pos h1, if_pos ⟨by omega, h1.2⟩]
    · rw [if_neg h1, if_neg (fun h2 => h1 ⟨by omega, h2.2⟩)]

theorem idx_other (h : rho i ≠ i) : idx rho (i + 1) = idx rho i := by
  funext c
  unfold idx
  by_cases hc : c = i
  · subst hc; simp [h]
  · by_cases h1 : c < i ∧ rho c = c
    · rw [if_pos h1, if_pos ⟨by omega, h1.2⟩]
    · rw [if_neg h1, if_neg (fun h2 => h1 ⟨by omega, h2.2⟩)]

theorem range_filter_succ (rho : Nat → Nat) (i r : Nat) : (List.range (i + 1)).filter (fun c => rho c == r) = (List.range i).filter (fun c => rho c == r) ++ (if rho i = r then [i] else []) := by
  rw [List.range_succ, List.filter_append]
  by_cases h : rho i = r <;> simp [h]

theorem groups_root (hle : ∀ c, rho c ≤ c) (h : rho i = i) : groupsOf rho (i + 1) = groupsOf rho i ++ [[i]] := by
  unfold groupsOf
  rw [roots_succ, if_pos h, List.map_append]
  congr 1
  · apply List.map_congr_left
    intro r hr
    have := roots_lt hr
    rw [range_filter_succ, if_neg (by omega)]
    simp
  · simp only [List.map_cons, List.map_nil]
    rw [range_filter_succ, if_pos h]
    have : (List.range i).filter (fun c => rho c == i) = [] := by
      rw [List.filter_eq_nil_iff]
      intro c hc
      have := hle c
      simp at hc ⊢
      omega
    rw [this]; rfl

theorem groups_other {r : Nat} (hr : rho i = r) (hri : r < i) (hrr : rho r = r) : groupsOf rho (i + 1) = (groupsOf rho i).set (roots rho r).length ((groupsOf rho i).getD (roots rho r).length [] ++ [i]) := by
  have hat := roots_at hrr i hri
  obtain ⟨hlt, hge⟩ := List.getElem?_eq_some_iff.1 hat
  apply List.ext_getElem?
  intro j
  have hroots : roots rho (i + 1) = roots rho i := by rw [roots_succ, if_neg (by omega)]; simp
  by_cases hj : j < (roots rho i).length
  · have e1 : (groupsOf rho (i + 1))[j]? = some ((List.range (i + 1)).filter (fun c => rho c == (roots rho i)[j])) := by
      unfold groupsOf; rw [hroots]; simp [hj]
    rw [e1, range_filter_succ]
    by_cases hjk : j = (roots rho r).length
    · subst hjk
      rw [hge, if_pos hr, List.getElem?_set_self (by rw [groups_len]; exact hlt)]
      have : (groupsOf rho i).getD (roots rho r).length [] = (List.range i).filter (fun c => rho c == r) := by
        unfold groupsOf
        simp [List.getD, hat]
      rw [this]
    · rw [List.getElem?_set_ne (Ne.symm hjk), if_neg]
      · unfold groupsOf; simp [hj]
      · intro e
        have hp := List.pairwise_iff_getElem.1 (roots_nodup rho i)
        rcases Nat.lt_or_gt_of_ne hjk with h1 | h1
        · exact hp j _ hj hlt h1 (by rw [hge, ← e, hr])
        · exact hp _ j hlt hj h1 (by rw [hge, ← e, hr])
  · rw [List.getElem?_eq_none (by rw [groups_len, hroots]; omega), List.getElem?_eq_none (by rw [List.length_set, groups_len]; omega)]

end

end Go.Proofs.Ythpcaamfcmjnmaa
