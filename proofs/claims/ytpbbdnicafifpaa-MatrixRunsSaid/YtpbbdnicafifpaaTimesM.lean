/-
  Firings of a run, one by one: when, which, how often at one time.
  Conditions: none beyond each theorem's own.
-/
import Derived.Test.YtpbbdnicafifpaaRunQ
namespace Go.Proofs.Ytpbbdnicafifpaa
open Go.RowKit
set_option linter.unusedVariables false

def zerosL (nt : Nat) : List Int := List.replicate nt 0
/-- how often each has fired at the last time; which time that was -/
def cntStep (nt : Nat) (p : Option Int × List Int) (x : Int × Int) : Option Int × List Int :=
  let c := if p.1 = none ∨ p.1 = some x.1 then p.2 else zerosL nt
  (some x.1, c.set x.2.toNat (getI c x.2 + 1))
def cntSt (nt : Nat) (l : List (Int × Int)) : Option Int × List Int := l.foldl (cntStep nt) (none, zerosL nt)
theorem cntSt_snoc (nt : Nat) (l : List (Int × Int)) (x : Int × Int) : cntSt nt (l ++ [x]) = cntStep nt (cntSt nt l) x := by unfold cntSt; rw [List.foldl_append]; rfl
theorem cntSt_take {nt : Nat} {l : List (Int × Int)} {k : Nat} {x : Int × Int} (h : l[k]? = some x) : cntSt nt (l.take (k + 1)) = cntStep nt (cntSt nt (l.take k)) x := by rw [take_at h, cntSt_snoc]
theorem cntSt_prev {nt : Nat} {l : List (Int × Int)} {k : Nat} {y : Int × Int} (h : l[k]? = some y) : (cntSt nt (l.take (k + 1))).1 = some y.1 := by rw [cntSt_take h]; rfl
theorem cntSt_len (nt : Nat) (l : List (Int × Int)) : (cntSt nt l).2.length = nt := by
  induction l using snoc_ind with
  | h0 => simp [cntSt, zerosL]
  | h1 l x ih =>
    rw [cntSt_snoc]
    unfold cntStep
    simp only [List.length_set]
    split
    · exact ih
    · simp [zerosL]

/-- a log in order: up to time T, within h, each at most so often -/
def LogOk (nt : Nat) (h T : Int) (l : List (Int × Int)) : Prop :=
  ∀ (k : Nat) (x : Int × Int), l[k]? = some x → 0 ≤ x.1 ∧ x.1 ≤ h ∧ x.1 ≤ T ∧ 0 ≤ x.2 ∧ x.2 < (nt : Int) ∧ getI (cntSt nt (l.take (k + 1))).2 x.2 ≤ 20 ∧ 0 ≤ getI (cntSt nt (l.take k)).2 x.2 ∧ ∀ j y, k = j + 1 → l[j]? = some y → y.1 ≤ x.1
theorem LogOk.later {nt : Nat} {h T T' : Int} {l : List (Int × Int)} (hl : LogOk nt h T l) (hT : T ≤ T') : LogOk nt h T' l := fun k x hk => by
  obtain ⟨a, b, c, d⟩ := hl k x hk
  exact ⟨a, b, by omega, d⟩
theorem LogOk.snoc {nt : Nat} {h t : Int} {l : List (Int × Int)} {b : Nat} (hl : LogOk nt h t l) (h0 : 0 ≤ t) (h1 : t ≤ h) (hb : b < nt) (hc : getI (cntSt nt (l ++ [(t, (b : Int))])).2 b ≤ 20) (hp : 0 ≤ getI (cntSt nt l).2 b) : LogOk nt h t (l ++ [(t, (b : Int))]) := by
  intro k x hk
  by_cases hlt : k < l.length
  · rw [List.getElem?_append_left hlt] at hk
    obtain ⟨a1, a2, a3, a4, a5, a6, a7, a8⟩ := hl k x hk
    refine ⟨a1, a2, a3, a4, a5, by rw [List.take_append_of_le_length (by omega)]; exact a6, by rw [List.take_append_of_le_length (by omega)]; exact a7, fun j y hj hy => ?_⟩
    rw [List.getElem?_append_left (by omega)] at hy
    exact a8 j y hj hy
  · have hke : k = l.length := by have := lt_at hk; simp at this; omega
    subst hke
    simp at hk
    subst hk
    refine ⟨h0, h1, Int.le_refl _, by simp, by simp; omega, ?_, ?_, fun j y hj hy => ?_⟩
    · rw [List.take_of_length_le (by simp)]; exact hc
    · rw [List.take_append_of_le_length (Nat.le_refl _), List.take_length]; exact hp
    · rw [List.getElem?_append_left (by omega)] at hy
      exact (hl j y hy).2.2.1

/-- what the counts at hand have to do with the log -/
def CntOk (nt : Nat) (t : Int) (c : List Int) (l : List (Int × Int)) : Prop :=
  (∀ z ∈ c, 0 ≤ z) ∧ c.length = nt ∧ ((c = zerosL nt ∧ ∀ p, (cntSt nt l).1 = some p → p < t) ∨ ((cntSt nt l).1 = some t ∧ c = (cntSt nt l).2))
theorem cnt_none {nt : Nat} {l : List (Int × Int)} (h : (cntSt nt l).1 = none) : l = [] := by
  induction l using snoc_ind with
  | h0 => rfl
  | h1 l x ih => rw [cntSt_snoc] at h; cases h
theorem zeros_nonneg (nt : Nat) : ∀ z ∈ zerosL nt, (0 : Int) ≤ z := fun z hz => by rw [List.eq_of_mem_replicate hz]; exact Int.le_refl _
theorem CntOk.base {nt : Nat} {t : Int} {c : List Int} {l : List (Int × Int)} (h : CntOk nt t c l) : (if (cntSt nt l).1 = none ∨ (cntSt nt l).1 = some t then (cntSt nt l).2 else zerosL nt) = c := by
  rcases h.2.2 with ⟨h1, h2⟩ | ⟨h1, h2⟩
  · cases hp : (cntSt nt l).1 with
    | none =>
      rw [if_pos (.inl rfl), cnt_none hp, h1]; rfl
    | some p =>
      have := h2 p hp
      rw [if_neg (by simp; omega), h1]
  · rw [if_pos (.inr h1), h2]
theorem getI_nonneg {c : List Int} (h : ∀ z ∈ c, 0 ≤ z) (i : Int) : 0 ≤ getI c i := by
  unfold getI
  rw [List.getD_eq_getElem?_getD]
  cases hc : c[i.toNat]? with
  | none => simp
  | some z => simpa using h z (List.mem_of_getElem? hc)
theorem cnt_nonneg (nt : Nat) (l : List (Int × Int)) : ∀ z ∈ (cntSt nt l).2, 0 ≤ z := by
  induction l using snoc_ind with
  | h0 => exact zeros_nonneg nt
  | h1 l x ih =>
    intro z hz
    rw [cntSt_snoc] at hz
    unfold cntStep at hz
    simp only at hz
    have hc : ∀ z ∈ (if (cntSt nt l).1 = none ∨ (cntSt nt l).1 = some x.1 then (cntSt nt l).2 else zerosL nt), 0 ≤ z := by
      split
      · exact ih
      · exact zeros_nonneg nt
    generalize (if (cntSt nt l).1 = none ∨ (cntSt nt l).1 = some x.1 then (cntSt nt l).2 else zerosL nt) = c at hz hc
    rcases List.mem_or_eq_of_mem_set hz with h1 | h1
    · exact hc z h1
    · have := getI_nonneg hc x.2; omega
theorem CntOk.fire {nt : Nat} {t : Int} {c : List Int} {l : List (Int × Int)} {b : Nat} (h : CntOk nt t c l) (hb : b < nt) : CntOk nt t (c.set b (getI c b + 1)) (l ++ [(t, (b : Int))]) ∧ (cntSt nt (l ++ [(t, (b : Int))])).2 = c.set b (getI c b + 1) := by
  have e : cntSt nt (l ++ [(t, (b : Int))]) = (some t, c.set b (getI c b + 1)) := by
    rw [cntSt_snoc]
    unfold cntStep
    simp only [h.base, Int.toNat_natCast]
  refine ⟨⟨fun z hz => ?_, by rw [List.length_set]; exact h.2.1, .inr ⟨by rw [e], by rw [e]⟩⟩, by rw [e]⟩
  rcases List.mem_or_eq_of_mem_set hz with h1 | h1
  · exact h.1 z h1
  · have := getI_nonneg h.1 (b : Int); omega

theorem inst_log {n : Nt} {h t : Int} (h0 : 0 ≤ t) (h1 : t ≤ h) : ∀ (k : Nat) (c : List Int) (s : St), CntOk n.trans.length t c s.log → LogOk n.trans.length h t s.log → LogOk n.trans.length h t (inst n.trans t k c s).1.log ∧ ∀ p, (cntSt n.trans.length (inst n.trans t k c s).1.log).1 = some p → p ≤ t
  | 0, c, s, hc, hl => ⟨hl, fun p hp => by rcases hc.2.2 with ⟨_, h2⟩ | ⟨h2, _⟩; (· have := h2 p hp; simp only [inst] at hp; omega); (· simp only [inst] at hp; rw [h2] at hp; injection hp; omega)⟩
  | k + 1, c, s, hc, hl => by
    have hend : ∀ p, (cntSt n.trans.length s.log).1 = some p → p ≤ t := fun p hp => by
      rcases hc.2.2 with ⟨_, h2⟩ | ⟨h2, _⟩
      · have := h2 p hp; omega
      · rw [h2] at hp; injection hp; omega
    by_cases hb : bestTo s.m n.trans n.trans.length < 0
    · rw [inst_stop hb]; exact ⟨hl, hend⟩
    · obtain ⟨b, hbe⟩ : ∃ b : Nat, bestTo s.m n.trans n.trans.length = b := ⟨(bestTo s.m n.trans n.trans.length).toNat, by omega⟩
      obtain ⟨x, hx, hm⟩ := bestTo_may s.m n.trans n.trans.length (by omega)
      rw [hbe, Int.toNat_natCast] at hx
      by_cases hr : refuseN s (getI c b) = 0
      · obtain ⟨e, hc20, _⟩ := inst_go (t := t) (k := k) hbe hx hr
        rw [e]
        have hbn := lt_at hx
        obtain ⟨f1, f2⟩ := hc.fire hbn
        have hlog : (fire t b x s).log = s.log ++ [(t, (b : Int))] := rfl
        refine inst_log h0 h1 k _ _ (by rw [hlog]; exact f1) ?_
        rw [hlog]
        refine hl.snoc h0 h1 hbn ?_ (getI_nonneg (cnt_nonneg _ _) _)
        rw [f2]
        have : getI (c.set b (getI c b + 1)) (b : Int) = getI c b + 1 := getI_at (by rw [List.getElem?_set_self (by rw [hc.2.1]; exact hbn)])
        rw [this]; omega
      · rw [inst_ref hbe hr]; exact ⟨hl, hend⟩
theorem instAll_log {n : Nt} {h t : Int} {s : St} (h0 : 0 ≤ t) (h1 : t ≤ h) (hl : LogOk n.trans.length h t s.log) (hp : ∀ p, (cntSt n.trans.length s.log).1 = some p → p < t) : LogOk n.trans.length h t (instAll n.trans t s).1.log ∧ ∀ p, (cntSt n.trans.length (instAll n.trans t s).1.log).1 = some p → p ≤ t :=
  inst_log h0 h1 2001 _ (arrive t s) ⟨zeros_nonneg _, by simp, .inl ⟨rfl, hp⟩⟩ hl

theorem times_log {n : Nt} (hn : NOk n) {h : Int} : ∀ (k : Nat) (t : Int) (s : St), Inv n t s → 0 ≤ t → t ≤ h → LogOk n.trans.length h t s.log → (∀ p, (cntSt n.trans.length s.log).1 = some p → p < t) → LogOk n.trans.length h (times n.trans h k t s).2.1 (times n.trans h k t s).1.log
  | 0, t, s, hI, h0, h1, hl, hp => hl
  | k + 1, t, s, hI, h0, h1, hl, hp => by
    obtain ⟨i1, i2, i3⟩ := instAll_inv hn hI
    obtain ⟨l1, l2⟩ := instAll_log h0 h1 hl hp
    by_cases hr : (instAll n.trans t s).2 = 0
    · rw [times_go hr]
      split
      · rename_i hc
        obtain ⟨x1, x2, _⟩ := next_inv i1 i2 hc.1
        exact times_log hn k _ _ x2 hc.1 hc.2 (l1.later (by omega)) (fun p hp => by have := l2 p hp; omega)
      · exact l1
    · rw [times_err hr]; exact l1
theorem runN_log {n : Nt} (hn : NOk n) {h : Int} : LogOk n.trans.length h (runN n h).2.1 (runN n h).1.log := by
  unfold runN
  split
  · rename_i h0
    exact times_log hn _ _ _ (start_inv hn) (Int.le_refl _) h0 (fun k x hk => by simp [start] at hk) (fun p hp => by cases hp)
  · exact fun k x hk => by simp [start] at hk
end Go.Proofs.Ytpbbdnicafifpaa
