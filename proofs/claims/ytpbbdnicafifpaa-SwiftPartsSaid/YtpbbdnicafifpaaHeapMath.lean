/-
  Plain facts on binary heaps of keys as lists: exchanging two, rising, sinking, taking the first.
  Conditions: none beyond each theorem's own.
-/
import Derived.Test.YtpbbdnicafifpaaKey
namespace Go.Proofs.Ytpbbdnicafifpaa

/-- the key at a place -/
abbrev at4 (ks : List Key4) (i : Nat) : Key4 := ks.getD i (0, 0, 0, 0)

/-- no key is smaller than its parent -/
def IsHeap (ks : List Key4) : Prop := ∀ j, 0 < j → j < ks.length → klt (at4 ks j) (at4 ks ((j - 1) / 2)) = false

/-- a heap but for place i, which may be too small for where it stands -/
def UpAt (ks : List Key4) (i : Nat) : Prop :=
  (∀ j, 0 < j → j < ks.length → j ≠ i → klt (at4 ks j) (at4 ks ((j - 1) / 2)) = false) ∧
  (∀ j, 0 < j → j < ks.length → (j - 1) / 2 = i → 0 < i → klt (at4 ks j) (at4 ks ((i - 1) / 2)) = false)

/-- a heap but for place i, which may be too great for where it stands -/
def DownAt (ks : List Key4) (i : Nat) : Prop :=
  (∀ j, 0 < j → j < ks.length → (j - 1) / 2 ≠ i → klt (at4 ks j) (at4 ks ((j - 1) / 2)) = false) ∧
  (∀ j, 0 < j → j < ks.length → (j - 1) / 2 = i → 0 < i → klt (at4 ks j) (at4 ks ((i - 1) / 2)) = false)

/-- two keys exchanged -/
def swap4 (ks : List Key4) (i j : Nat) : List Key4 := (ks.set i (at4 ks j)).set j (at4 ks i)

theorem swap4_len (ks : List Key4) (i j : Nat) : (swap4 ks i j).length = ks.length := by simp [swap4]

theorem at4_set (ks : List Key4) (i k : Nat) (x : Key4) (hi : i < ks.length) : at4 (ks.set i x) k = if k = i then x else at4 ks k := by
  by_cases h : k = i
  · subst h; simp [at4, hi]
  · simp [at4, h, Ne.symm h]

theorem at4_swap (ks : List Key4) (i j k : Nat) (hi : i < ks.length) (hj : j < ks.length) : at4 (swap4 ks i j) k = if k = j then at4 ks i else if k = i then at4 ks j else at4 ks k := by
  unfold swap4
  rw [at4_set _ _ _ _ (by simpa using hj), at4_set _ _ _ _ hi]

theorem swap4_perm (ks : List Key4) (i j : Nat) (hi : i < ks.length) (hj : j < ks.length) : (swap4 ks i j).Perm ks := by
  have h := Array.swap_perm (xs := ks.toArray) (i := i) (j := j) (by simpa using hi) (by simpa using hj)
  have e : (ks.toArray.swap i j (by simpa using hi) (by simpa using hj)).toList = swap4 ks i j := by
    simp [swap4, at4, hi, hj, Array.swap]
  have h' := h.toList
  rw [e] at h'
  exact h'

theorem UpAt.done {ks : List Key4} {i : Nat} (h : UpAt ks i) (hd : i = 0 ∨ klt (at4 ks i) (at4 ks ((i - 1) / 2)) = false) : IsHeap ks := by
  intro j h0 hj
  by_cases e : j = i
  · subst e
    rcases hd with hd | hd
    · omega
    · exact hd
  · exact h.1 j h0 hj e

theorem UpAt.step {ks : List Key4} {i : Nat} (h : UpAt ks i) (hi : i < ks.length) (h0 : 0 < i) (hl : klt (at4 ks i) (at4 ks ((i - 1) / 2)) = true) : UpAt (swap4 ks i ((i - 1) / 2)) ((i - 1) / 2) := by
  obtain ⟨hA, hB⟩ := h
  obtain ⟨p, hp⟩ : ∃ p, p = (i - 1) / 2 := ⟨_, rfl⟩
  rw [← hp] at hl ⊢
  have hpi : p < i := by omega
  have hpl : p < ks.length := by omega
  have hle := klt_asymm hl
  refine ⟨fun j j0 hj hjp => ?_, fun j j0 hj hjp p0 => ?_⟩
  · rw [swap4_len] at hj
    rw [at4_swap _ _ _ _ hi hpl, at4_swap _ _ _ _ hi hpl]
    rw [if_neg hjp]
    by_cases hji : j = i
    · subst hji
      rw [if_pos rfl, if_pos hp.symm]
      exact hle
    · rw [if_neg hji]
      by_cases hpar : (j - 1) / 2 = p
      · rw [if_pos hpar]
        have h1 := hA j j0 hj hji
        rw [hpar] at h1
        exact kle_trans hle h1
      · rw [if_neg hpar]
        by_cases hpar2 : (j - 1) / 2 = i
        · rw [if_pos hpar2]
          have := hB j j0 hj hpar2 h0
          rw [← hp] at this
          exact this
        · rw [if_neg hpar2]
          exact hA j j0 hj hji
  · rw [swap4_len] at hj
    have hpp : (p - 1) / 2 < p := by omega
    have hP := hA p p0 hpl (by omega)
    rw [at4_swap _ _ _ _ hi hpl, at4_swap _ _ _ _ hi hpl, if_neg (by omega : ¬ (p - 1) / 2 = p), if_neg (by omega : ¬ (p - 1) / 2 = i)]
    by_cases hji : j = i
    · subst hji
      rw [if_neg (by omega), if_pos rfl]
      exact hP
    · rw [if_neg (by omega), if_neg hji]
      have h1 := hA j j0 hj hji
      rw [hjp] at h1
      exact kle_trans hP h1

/-- the least of a place and its children -/
def least4 (ks : List Key4) (i : Nat) : Nat :=
  let l := if 2 * i + 1 < ks.length ∧ klt (at4 ks (2 * i + 1)) (at4 ks i) = true then 2 * i + 1 else i
  if 2 * i + 2 < ks.length ∧ klt (at4 ks (2 * i + 2)) (at4 ks l) = true then 2 * i + 2 else l

theorem least4_all (ks : List Key4) (i : Nat) : least4 ks i = i ∨ (least4 ks i = 2 * i + 1 ∧ 2 * i + 1 < ks.length) ∨ (least4 ks i = 2 * i + 2 ∧ 2 * i + 2 < ks.length) := by
  by_cases h1 : 2 * i + 1 < ks.length ∧ klt (at4 ks (2 * i + 1)) (at4 ks i) = true
  · by_cases h2 : 2 * i + 2 < ks.length ∧ klt (at4 ks (2 * i + 2)) (at4 ks (2 * i + 1)) = true
    · exact .inr (.inr ⟨by simp only [least4]; rw [if_pos h1, if_pos h2], h2.1⟩)
    · exact .inr (.inl ⟨by simp only [least4]; rw [if_pos h1, if_neg h2], h1.1⟩)
  · by_cases h2 : 2 * i + 2 < ks.length ∧ klt (at4 ks (2 * i + 2)) (at4 ks i) = true
    · exact .inr (.inr ⟨by simp only [least4]; rw [if_neg h1, if_pos h2], h2.1⟩)
    · exact .inl (by simp only [least4]; rw [if_neg h1, if_neg h2])

theorem least4_lt {ks : List Key4} {i : Nat} (hi : i < ks.length) : least4 ks i < ks.length := by
  rcases least4_all ks i with h | h | h <;> omega

theorem least4_cases (ks : List Key4) (i : Nat) : least4 ks i = i ∨ least4 ks i = 2 * i + 1 ∨ least4 ks i = 2 * i + 2 := by
  rcases least4_all ks i with h | h | h <;> omega

/-- no child, and not the place itself, is smaller than the least one -/
theorem least4_le (ks : List Key4) (i : Nat) : klt (at4 ks i) (at4 ks (least4 ks i)) = false ∧ ∀ j, 0 < j → j < ks.length → (j - 1) / 2 = i → klt (at4 ks j) (at4 ks (least4 ks i)) = false := by
  have key : ∀ j, 0 < j → (j - 1) / 2 = i → j = 2 * i + 1 ∨ j = 2 * i + 2 := by intro j h0 h; omega
  by_cases h1 : 2 * i + 1 < ks.length ∧ klt (at4 ks (2 * i + 1)) (at4 ks i) = true
  · by_cases h2 : 2 * i + 2 < ks.length ∧ klt (at4 ks (2 * i + 2)) (at4 ks (2 * i + 1)) = true
    · have e : least4 ks i = 2 * i + 2 := by simp only [least4]; rw [if_pos h1, if_pos h2]
      rw [e]
      refine ⟨klt_asymm (klt_trans h2.2 h1.2), fun j h0 hj hp => ?_⟩
      rcases key j h0 hp with rfl | rfl
      · exact klt_asymm h2.2
      · exact klt_irrefl _
    · have e : least4 ks i = 2 * i + 1 := by simp only [least4]; rw [if_pos h1, if_neg h2]
      rw [e]
      refine ⟨klt_asymm h1.2, fun j h0 hj hp => ?_⟩
      rcases key j h0 hp with rfl | rfl
      · exact klt_irrefl _
      · have : ¬ klt (at4 ks (2 * i + 2)) (at4 ks (2 * i + 1)) = true := fun h => h2 ⟨hj, h⟩
        simpa using this
  · by_cases h2 : 2 * i + 2 < ks.length ∧ klt (at4 ks (2 * i + 2)) (at4 ks i) = true
    · have e : least4 ks i = 2 * i + 2 := by simp only [least4]; rw [if_neg h1, if_pos h2]
      rw [e]
      refine ⟨klt_asymm h2.2, fun j h0 hj hp => ?_⟩
      rcases key j h0 hp with rfl | rfl
      · have h3 : ¬ klt (at4 ks (2 * i + 1)) (at4 ks i) = true := fun h => h1 ⟨hj, h⟩
        have h4 : klt (at4 ks (2 * i + 1)) (at4 ks i) = false := by simpa using h3
        exact kle_trans (klt_asymm h2.2) h4
      · exact klt_irrefl _
    · have e : least4 ks i = i := by simp only [least4]; rw [if_neg h1, if_neg h2]
      rw [e]
      refine ⟨klt_irrefl _, fun j h0 hj hp => ?_⟩
      rcases key j h0 hp with rfl | rfl
      · have : ¬ klt (at4 ks (2 * i + 1)) (at4 ks i) = true := fun h => h1 ⟨hj, h⟩
        simpa using this
      · have : ¬ klt (at4 ks (2 * i + 2)) (at4 ks i) = true := fun h => h2 ⟨hj, h⟩
        simpa using this

theorem DownAt.done {ks : List Key4} {i : Nat} (h : DownAt ks i) (hd : least4 ks i = i) : IsHeap ks := by
  intro j h0 hj
  by_cases e : (j - 1) / 2 = i
  · rw [e]
    have := (least4_le ks i).2 j h0 hj e
    rw [hd] at this
    exact this
  · exact h.1 j h0 hj e

theorem DownAt.step {ks : List Key4} {i : Nat} (h : DownAt ks i) (hi : i < ks.length) (hl : least4 ks i ≠ i) : DownAt (swap4 ks i (least4 ks i)) (least4 ks i) := by
  obtain ⟨hA, hB⟩ := h
  have hle := least4_le ks i
  have hc := least4_cases ks i
  have hm := least4_lt hi
  generalize least4 ks i = m at *
  have hmi : i < m := by omega
  have hpm : (m - 1) / 2 = i := by omega
  refine ⟨fun j j0 hj hjp => ?_, fun j j0 hj hjp m0 => ?_⟩
  · rw [swap4_len] at hj
    rw [at4_swap _ _ _ _ hi hm, at4_swap _ _ _ _ hi hm, if_neg hjp]
    by_cases hjm : j = m
    · subst hjm
      rw [if_pos rfl, if_pos hpm]
      exact hle.1
    · rw [if_neg hjm]
      by_cases hji : j = i
      · subst hji
        rw [if_pos rfl, if_neg (by omega)]
        exact hB m (by omega) hm hpm j0
      · rw [if_neg hji]
        by_cases hpar : (j - 1) / 2 = i
        · rw [if_pos hpar]
          exact hle.2 j j0 hj hpar
        · rw [if_neg hpar]
          exact hA j j0 hj hpar
  · rw [swap4_len] at hj
    rw [at4_swap _ _ _ _ hi hm, at4_swap _ _ _ _ hi hm, if_neg (by omega : ¬ j = m), if_neg (by omega : ¬ j = i), if_neg (by omega : ¬ (m - 1) / 2 = m), if_pos hpm]
    have := hA j j0 hj (by omega)
    rw [hjp] at this
    exact this

/-- the first is the least -/
theorem IsHeap.first {ks : List Key4} (h : IsHeap ks) : ∀ j, j < ks.length → klt (at4 ks j) (at4 ks 0) = false := by
  intro j
  induction j using Nat.strongRecOn with
  | ind j ih =>
    intro hj
    by_cases h0 : j = 0
    · subst h0; exact klt_irrefl _
    · have h1 := h j (by omega) hj
      have h2 := ih ((j - 1) / 2) (by omega) (by omega)
      exact kle_trans h2 h1

theorem IsHeap.push {ks : List Key4} (h : IsHeap ks) (x : Key4) : UpAt (ks ++ [x]) ks.length := by
  have e : ∀ k, k < ks.length → at4 (ks ++ [x]) k = at4 ks k := by intro k hk; simp [at4, List.getElem?_append, hk]
  refine ⟨fun j j0 hj hne => ?_, fun j j0 hj hp _ => ?_⟩
  · have hj' : j < ks.length := by simp at hj; omega
    rw [e j hj', e _ (by omega)]
    exact h j j0 hj'
  · simp at hj; omega

/-- what is left when the first has gone and the last has taken its place -/
def drop4 (ks : List Key4) : List Key4 := (ks.set 0 (at4 ks (ks.length - 1))).take (ks.length - 1)

theorem drop4_len (ks : List Key4) : (drop4 ks).length = ks.length - 1 := by simp [drop4]

theorem drop4_down {ks : List Key4} (h : IsHeap ks) : DownAt (drop4 ks) 0 := by
  have e : ∀ k, 0 < k → k < ks.length - 1 → at4 (drop4 ks) k = at4 ks k := by
    intro k h0 hk
    have hl : k < ks.length := by omega
    simp [drop4, at4, hk, hl, show ¬ 0 = k by omega]
  refine ⟨fun j j0 hj hp => ?_, fun j _ _ _ h0 => absurd h0 (by omega)⟩
  rw [drop4_len] at hj
  rw [e j j0 hj, e _ (by omega) (by omega)]
  exact h j j0 (by omega)

theorem drop4_perm (ks : List Key4) (h : 0 < ks.length) : (at4 ks 0 :: drop4 ks).Perm ks := by
  match ks, h with
  | x :: l, _ =>
    rcases List.eq_nil_or_concat l with rfl | ⟨m, y, rfl⟩
    · exact List.Perm.refl _
    · have e : drop4 (x :: m.concat y) = y :: m := by
        simp [drop4, at4]
      rw [e]
      simp only [List.concat_eq_append]
      have : (at4 (x :: (m ++ [y])) 0) = x := rfl
      rw [this]
      exact List.Perm.cons x (List.perm_append_singleton y m).symm

end Go.Proofs.Ytpbbdnicafifpaa
