/-
  Plain facts: groups by a list of pairs, as joined one by one, and as found by so many rounds of handing smaller labels on.
  Conditions: none beyond each theorem's own.
-/
import Derived.Test.YthpcaamfcmjnmaaCountsWalk
namespace Go.Proofs.Ythpcaamfcmjnmaa
set_option linter.unusedVariables false

/-- both are elements -/
def InR (m : Nat) (p : Int × Int) : Prop := 0 ≤ p.1 ∧ p.1 < m ∧ 0 ≤ p.2 ∧ p.2 < m

instance (m : Nat) (p : Int × Int) : Decidable (InR m p) := by unfold InR; infer_instance

/-- rho is what joining the pairs one by one comes to -/
structure Knits (m : Nat) (done : List (Int × Int)) (rho : Nat → Nat) : Prop where
  root : ∀ c, rho c ≤ c ∧ rho (rho c) = rho c
  pair : ∀ p ∈ done, InR m p → rho p.1.toNat = rho p.2.toNat
  least : ∀ g : Nat → Nat, (∀ p ∈ done, InR m p → g p.1.toNat = g p.2.toNat) → ∀ c, g (rho c) = g c

theorem Knits.start (m : Nat) : Knits m [] (fun c => c) := ⟨fun c => ⟨Nat.le_refl _, rfl⟩, fun p h => by simp at h, fun g _ c => rfl⟩

theorem Knits.out {m : Nat} {done : List (Int × Int)} {rho : Nat → Nat} (h : Knits m done rho) (p : Int × Int) (hp : ¬ InR m p) : Knits m (done ++ [p]) rho := by
  refine ⟨h.root, ?_, ?_⟩
  · intro q hq hin
    rcases List.mem_append.1 hq with h1 | h1
    · exact h.pair q h1 hin
    · simp at h1; subst h1; exact absurd hin hp
  · intro g hg c
    exact h.least g (fun q hq hin => hg q (List.mem_append_left _ hq) hin) c

theorem joined_roots {rho : Nat → Nat} (hr : ∀ c, rho c ≤ c ∧ rho (rho c) = rho c) (x y : Nat) : ∀ c, joined rho x y c ≤ c ∧ joined rho x y (joined rho x y c) = joined rho x y c := by
  intro c
  have hx := (hr x).2
  have hy := (hr y).2
  have hmn : rho (min (rho x) (rho y)) = min (rho x) (rho y) := by rcases Nat.le_total (rho x) (rho y) with h1 | h1 <;> simp [Nat.min_eq_left h1, Nat.min_eq_right h1, hx, hy]
  have hc := hr c
  unfold joined
  by_cases h1 : rho c = max (rho x) (rho y)
  · rw [if_pos h1]
    refine ⟨by omega, ?_⟩
    rw [hmn]
    split <;> rfl
  · rw [if_neg h1]
    refine ⟨hc.1, ?_⟩
    rw [hc.2, if_neg h1]

theorem Knits.step {m : Nat} {done : List (Int × Int)} {rho : Nat → Nat} (h : Knits m done rho) (p : Int × Int) : Knits m (done ++ [p]) (joined rho p.1.toNat p.2.toNat) ∨ ¬ InR m p := by
  by_cases hp : InR m p
  · left
    obtain ⟨a, ha⟩ : ∃ a, a = p.1.toNat := ⟨_, rfl⟩
    obtain ⟨b, hb⟩ : ∃ b, b = p.2.toNat := ⟨_, rfl⟩
    rw [← ha, ← hb]
    refine ⟨joined_roots h.root a b, ?_, ?_⟩
    · intro q hq hin
      rcases List.mem_append.1 hq with h1 | h1
      · have := h.pair q h1 hin
        unfold joined
        rw [this]
      · simp at h1; subst h1
        rw [← ha, ← hb]
        exact joined_eq h.root a b
    · intro g hg c
      have hl := h.least g (fun q hq hin => hg q (List.mem_append_left _ hq) hin)
      have hab : g a = g b := by rw [ha, hb]; exact hg p (by simp) hp
      have h1 : g (rho a) = g (rho b) := by rw [hl, hl, hab]
      have h2 : g (min (rho a) (rho b)) = g (max (rho a) (rho b)) := by
        rcases Nat.le_total (rho a) (rho b) with h3 | h3 <;> simp [Nat.min_eq_left h3, Nat.min_eq_right h3, Nat.max_eq_left h3, Nat.max_eq_right h3, h1]
      unfold joined
      split
      · rename_i h3
        rw [h2, ← h3, hl]
      · exact hl c
  · exact .inr hp

/-- one value laid -/
def lay (f : Nat → Nat) (c v : Nat) : Nat → Nat := fun a => if a = c then v else f a

/-- one pair hands the smaller label on -/
def relax (m : Nat) (f : Nat → Nat) (p : Int × Int) : Nat → Nat :=
  if InR m p then (if f p.1.toNat < f p.2.toNat then lay f p.2.toNat (f p.1.toNat) else lay f p.1.toNat (f p.2.toNat)) else f

/-- a round of all pairs -/
def sweep (m : Nat) (done : List (Int × Int)) (f : Nat → Nat) : Nat → Nat := done.foldl (relax m) f

/-- so many rounds -/
def sweeps (m : Nat) (done : List (Int × Int)) : Nat → (Nat → Nat)
  | 0 => fun c => c
  | t + 1 => sweep m done (sweeps m done t)

theorem relax_le (m : Nat) (f : Nat → Nat) (p : Int × Int) : ∀ c, relax m f p c ≤ f c := by
  intro c
  unfold relax
  split
  · split
    · unfold lay; split
      · rename_i h1 h2; subst h2; omega
      · exact Nat.le_refl _
    · unfold lay; split
      · rename_i h1 h2; subst h2; omega
      · exact Nat.le_refl _
  · exact Nat.le_refl _

theorem foldl_relax_le (m : Nat) : ∀ (l : List (Int × Int)) (f : Nat → Nat) (c : Nat), l.foldl (relax m) f c ≤ f c
  | [], f, c => Nat.le_refl _
  | p :: l, f, c => Nat.le_trans (foldl_relax_le m l _ c) (relax_le m f p c)

theorem relax_pair {m : Nat} {f : Nat → Nat} {p : Int × Int} (hp : InR m p) : relax m f p p.1.toNat ≤ f p.2.toNat ∧ relax m f p p.2.toNat ≤ f p.1.toNat := by
  unfold relax
  rw [if_pos hp]
  split
  · rename_i h
    refine ⟨?_, by simp [lay]⟩
    unfold lay; split <;> omega
  · rename_i h
    refine ⟨by simp [lay], ?_⟩
    unfold lay; split <;> omega

theorem sweep_pair {m : Nat} : ∀ (l : List (Int × Int)) (f : Nat → Nat) (p : Int × Int), p ∈ l → InR m p → l.foldl (relax m) f p.1.toNat ≤ f p.2.toNat ∧ l.foldl (relax m) f p.2.toNat ≤ f p.1.toNat
  | [], _, _, h, _ => by simp at h
  | q :: l, f, p, h, hp => by
    simp only [List.foldl_cons]
    rcases List.mem_cons.1 h with rfl | h
    · have h1 := relax_pair (f := f) hp
      exact ⟨Nat.le_trans (foldl_relax_le m l _ _) h1.1, Nat.le_trans (foldl_relax_le m l _ _) h1.2⟩
    · have h1 := sweep_pair l (relax m f q) p h hp
      exact ⟨Nat.le_trans h1.1 (relax_le m f q _), Nat.le_trans h1.2 (relax_le m f q _)⟩

section
variable {m : Nat} {done : List (Int × Int)} {rho : Nat → Nat}

theorem relax_group (h : Knits m done rho) {f : Nat → Nat} (hf : ∀ c, rho (f c) = rho c) {p : Int × Int} (hp : p ∈ done) : ∀ c, rho (relax m f p c) = rho c := by
  intro c
  unfold relax
  split
  · rename_i hin
    have := h.pair p hp hin
    split <;> unfold lay <;> split
    · rename_i h2; subst h2; rw [hf, this]
    · exact hf c
    · rename_i h2; subst h2; rw [hf, this]
    · exact hf c
  · exact hf c

theorem foldl_group (h : Knits m done rho) : ∀ (l : List (Int × Int)), (∀ p ∈ l, p ∈ done) → ∀ f : Nat → Nat, (∀ c, rho (f c) = rho c) → ∀ c, rho (l.foldl (relax m) f c) = rho c
  | [], _, f, hf => hf
  | p :: l, hl, f, hf => foldl_group h l (fun q hq => hl q (by simp [hq])) _ (relax_group h hf (hl p (by simp)))

theorem sweeps_group (h : Knits m done rho) (t : Nat) : ∀ c, rho (sweeps m done t c) = rho c := by
  induction t with
  | zero => intro c; rfl
  | succ t ih => exact foldl_group h done (fun _ h => h) _ ih

theorem sweeps_ge (h : Knits m done rho) (t c : Nat) : rho c ≤ sweeps m done t c := by
  rw [← sweeps_group h t c]; exact (h.root _).1

theorem sweeps_le (m : Nat) (done : List (Int × Int)) (t c : Nat) : sweeps m done t c ≤ c := by
  induction t with
  | zero => exact Nat.le_refl _
  | succ t ih => exact Nat.le_trans (foldl_relax_le m done _ c) ih

/-- how many have their group's smallest element as label -/
def found (m : Nat) (rho f : Nat → Nat) : Nat := ((List.range m).filter (fun c => f c == rho c)).length

theorem filter_mono (p q : Nat → Bool) (h : ∀ c, p c = true → q c = true) : ∀ m, ((List.range m).filter p).length ≤ ((List.range m).filter q).length := by
  intro m
  induction m with
  | zero => simp
  | succ m ih =>
    rw [List.range_succ, List.filter_append, List.filter_append, List.length_append, List.length_append]
    have : ([m].filter p).length ≤ ([m].filter q).length := by
      by_cases hp : p m = true
      · simp [hp, h m hp]
      · simp [hp]
    omega

theorem filter_more (p q : Nat → Bool) (h : ∀ c, p c = true → q c = true) (a : Nat) (hq : q a = true) (hp : p a = false) : ∀ m, a < m → ((List.range m).filter p).length + 1 ≤ ((List.range m).filter q).length := by
  intro m
  induction m with
  | zero => intro h; omega
  | succ m ih =>
    intro hm
    rw [List.range_succ, List.filter_append, List.filter_append, List.length_append, List.length_append]
    by_cases ham : a = m
    · subst ham
      have := filter_mono p q h a
      simp [hp, hq]
      omega
    · have h1 := ih (by omega)
      have : ([m].filter p).length ≤ ([m].filter q).length := by
        by_cases hp : p m = true
        · simp [hp, h m hp]
        · simp [hp]
      omega

theorem sweeps_more (h : Knits m done rho) (t : Nat) (hn : ∃ c, c < m ∧ sweeps m done t c ≠ rho c) : found m rho (sweeps m done t) + 1 ≤ found m rho (sweeps m done (t + 1)) := by
  have hle : ∀ c, sweeps m done (t + 1) c ≤ sweeps m done t c := fun c => foldl_relax_le m done _ c
  have keep : ∀ c, (sweeps m done t c == rho c) = true → (sweeps m done (t + 1) c == rho c) = true := by
    intro c hc
    simp at hc ⊢
    have := hle c
    have := sweeps_ge h (t + 1) c
    omega
  -- some pair has one that has it, and one that hasn't
  have hpair : ∃ p ∈ done, InR m p ∧ (sweeps m done t p.1.toNat == rho p.1.toNat) ≠ (sweeps m done t p.2.toNat == rho p.2.toNat) := by
    apply Classical.byContradiction
    intro hno
    have hg : ∀ p ∈ done, InR m p → (fun c => if (sweeps m done t c == rho c) = true then 1 else 0 : Nat → Nat) p.1.toNat = (fun c => if (sweeps m done t c == rho c) = true then 1 else 0 : Nat → Nat) p.2.toNat := by
      intro p hp hin
      have : (sweeps m done t p.1.toNat == rho p.1.toNat) = (sweeps m done t p.2.toNat == rho p.2.toNat) := by
        apply Classical.byContradiction
        intro hne
        exact hno ⟨p, hp, hin, hne⟩
      show (if (sweeps m done t p.1.toNat == rho p.1.toNat) = true then 1 else 0) = (if (sweeps m done t p.2.toNat == rho p.2.toNat) = true then 1 else 0)
      rw [this]
    obtain ⟨c, hc, hne⟩ := hn
    have h1 := h.least (fun c => if (sweeps m done t c == rho c) = true then 1 else 0) hg c
    have h2 : (sweeps m done t (rho c) == rho (rho c)) = true := by
      have := sweeps_ge h t (rho c)
      have := sweeps_le m done t (rho c)
      have := (h.root c).2
      simp; omega
    have h3 : (sweeps m done t c == rho c) = false := by simpa using hne
    simp only [h2, h3, if_true] at h1
    simp at h1
  obtain ⟨p, hp, hin, hne⟩ := hpair
  have hs := sweep_pair done (sweeps m done t) p hp hin
  have hr := h.pair p hp hin
  have g1 := sweeps_ge h (t + 1) p.1.toNat
  have g2 := sweeps_ge h (t + 1) p.2.toNat
  have e1 : sweeps m done (t + 1) p.1.toNat ≤ sweeps m done t p.2.toNat := hs.1
  have e2 : sweeps m done (t + 1) p.2.toNat ≤ sweeps m done t p.1.toNat := hs.2
  have l1 : p.1.toNat < m := by unfold InR at hin; omega
  have l2 : p.2.toNat < m := by unfold InR at hin; omega
  cases hA : (sweeps m done t p.1.toNat == rho p.1.toNat) with
  | true =>
    have hB : (sweeps m done t p.2.toNat == rho p.2.toNat) = false := by
      cases hB : (sweeps m done t p.2.toNat == rho p.2.toNat) with
      | true => exact absurd (hA.trans hB.symm) hne
      | false => rfl
    refine filter_more _ _ keep p.2.toNat ?_ hB m l2
    simp at hA ⊢
    omega
  | false =>
    have hB : (sweeps m done t p.2.toNat == rho p.2.toNat) = true := by
      cases hB : (sweeps m done t p.2.toNat == rho p.2.toNat) with
      | false => exact absurd (hA.trans hB.symm) hne
      | true => rfl
    refine filter_more _ _ keep p.1.toNat ?_ hA m l1
    simp at hB ⊢
    omega

theorem found_le (m : Nat) (rho f : Nat → Nat) : found m rho f ≤ m := by
  have := List.length_filter_le (fun c => f c == rho c) (List.range m)
  simpa [found] using this

theorem found_all {f : Nat → Nat} (h : ∀ c, c < m → f c = rho c) : found m rho f = m := by
  unfold found
  rw [List.filter_eq_self.2 (fun c hc => by simp at hc; simp [h c hc])]
  simp

theorem all_found {f : Nat → Nat} : found m rho f = m → ∀ c, c < m → f c = rho c := by
  intro h c hc
  apply Classical.byContradiction
  intro hne
  have := filter_more (fun c => f c == rho c) (fun _ => true) (fun _ _ => rfl) c rfl (by simpa using hne) m hc
  have e : ((List.range m).filter (fun _ => true)).length = m := by rw [List.filter_eq_self.2 (fun _ _ => rfl)]; simp
  unfold found at h
  omega

/-- AS MANY ROUNDS AS THERE ARE ELEMENTS ARE ENOUGH -/
theorem sweeps_end (h : Knits m done rho) : ∀ c, c < m → sweeps m done m c = rho c := by
  apply all_found
  have key : ∀ t, t ≤ found m rho (sweeps m done t) ∨ found m rho (sweeps m done t) = m := by
    intro t
    induction t with
    | zero => exact .inl (Nat.zero_le _)
    | succ t ih =>
      by_cases hn : ∃ c, c < m ∧ sweeps m done t c ≠ rho c
      · have := sweeps_more h t hn
        rcases ih with ih | ih
        · left; omega
        · have := found_le m rho (sweeps m done (t + 1)); omega
      · right
        apply found_all
        intro c hc
        have h0 : sweeps m done t c = rho c := by
          apply Classical.byContradiction
          intro hne
          exact hn ⟨c, hc, hne⟩
        have h1 : sweeps m done (t + 1) c ≤ sweeps m done t c := foldl_relax_le m done _ c
        have h2 := sweeps_ge h (t + 1) c
        omega
  have := found_le m rho (sweeps m done m)
  rcases key m with h1 | h1 <;> omega

end

end Go.Proofs.Ythpcaamfcmjnmaa
