/-
  The tokens of a text are good ones.
  Conditions: the text is at most 800000 bytes.
-/
import Derived.Test.YtfiielibnnodkaaParseMath
namespace Go.Proofs.Ytfiielibnnodkaa
set_option linter.unusedVariables false

theorem Good.mk_cons {t : Tok} {ts : List Tok} (h : Good ts) (h1 : t.text ≠ []) (h2 : t.kind ≠ 0) (h3 : t.text.length ≤ 1000000) : Good (t :: ts) := by
  cases ts with
  | nil => exact absurd rfl h.ne
  | cons u us => exact ⟨h1, h2, h3, h⟩

/-- what a token's text is, by its kind -/
def TokOk (t : Tok) : Prop :=
  (t.kind = 1 ∧ wordB t.text = true) ∨ (t.kind = 2 ∧ t.text ≠ [] ∧ t.text.all isDigit = true) ∨ (t.kind = 3 ∧ (t.text = [45, 62] ∨ ∃ c, isSign c = true ∧ t.text = [c]))

structure LexOk (p : Nat) (l : List UInt8) (ts : List Tok) : Prop where
  good : Good ts
  len : ts.length ≤ l.length + 1
  each : ∀ t ∈ ts, t.at_ ≤ p + l.length ∧ t.num ≤ maxNum ∧ ((t.kind = 0 ∧ t.text = []) ∨ TokOk t)

theorem ahead_okk {t : Tok} {x : Except (Nat × Nat) (List Tok)} {ts : List Tok} (h : ahead t x = .ok ts) : ∃ us, x = .ok us ∧ ts = t :: us := by
  cases x with
  | ok us => exact ⟨us, rfl, by injection h with h; exact h.symm⟩
  | error e => cases h

theorem LexOk.cons {p q : Nat} {l m : List UInt8} {t : Tok} {us : List Tok} (h : LexOk q m us) (h1 : TokOk t) (h2 : t.text.length ≤ 1000000) (h3 : q + m.length ≤ p + l.length) (h4 : m.length + 1 ≤ l.length) (h5 : t.at_ ≤ p + l.length) (h6 : t.num ≤ maxNum) : LexOk p l (t :: us) := by
  refine ⟨h.good.mk_cons ?_ ?_ h2, by have := h.len; simp; omega, fun u hu => ?_⟩
  · rcases h1 with ⟨_, h⟩ | ⟨_, h, _⟩ | ⟨_, h | ⟨c, _, h⟩⟩
    · intro e; rw [e] at h; cases h
    · exact h
    · rw [h]; simp
    · rw [h]; simp
  · rcases h1 with ⟨h, _⟩ | ⟨h, _⟩ | ⟨h, _⟩ <;> rw [h] <;> decide
  · rw [List.mem_cons] at hu
    rcases hu with rfl | hu
    · exact ⟨h5, h6, .inr h1⟩
    · obtain ⟨k1, k2, k3⟩ := h.each u hu
      exact ⟨by omega, k2, k3⟩

theorem lexL_all (k : Nat) : ∀ (l : List UInt8) (p : Nat) (ts : List Tok), l.length ≤ k → l.length ≤ 800000 → lexL p l = .ok ts → LexOk p l ts := by
  induction k with
  | zero =>
    intro l p ts hk hl h
    have : l = [] := List.length_eq_zero_iff.1 (by omega)
    subst this
    rw [lex_nil] at h
    injection h with h
    subst h
    exact ⟨⟨rfl, rfl⟩, by simp, fun t ht => by simp at ht; subst ht; exact ⟨by simp, by simp, .inl ⟨rfl, rfl⟩⟩⟩
  | succ k ih =>
    intro l p ts hk hl h
    cases l with
    | nil =>
      rw [lex_nil] at h
      injection h with h
      subst h
      exact ⟨⟨rfl, rfl⟩, by simp, fun t ht => by simp at ht; subst ht; exact ⟨by simp, by simp, .inl ⟨rfl, rfl⟩⟩⟩
    | cons c r =>
      simp only [List.length_cons] at hk hl
      by_cases hb : isBlank c = true
      · rw [lex_blank p c r hb] at h
        have h1 := ih r (p + 1) ts (by omega) (by omega) h
        exact ⟨h1.good, by have := h1.len; simp; omega, fun t ht => by obtain ⟨a, b⟩ := h1.each t ht; exact ⟨by simp; omega, b⟩⟩
      replace hb : isBlank c = false := by simpa using hb
      by_cases hh : c.toNat = 35
      · rw [lex_hash p c r hh] at h
        have hd := (List.dropWhile_suffix (l := r) (fun x : UInt8 => x.toNat != 10)).length_le
        have hs : (r.takeWhile (fun x => x.toNat != 10)).length + (r.dropWhile (fun x => x.toNat != 10)).length = r.length := by
          rw [← List.length_append, List.takeWhile_append_dropWhile]
        have h1 := ih _ _ ts (by omega) (by omega) h
        exact ⟨h1.good, by have := h1.len; simp; omega, fun t ht => by obtain ⟨a, b⟩ := h1.each t ht; exact ⟨by simp; omega, b⟩⟩
      by_cases hw : isSmall c = true
      · rw [lex_word p c r hw] at h
        obtain ⟨us, h', rfl⟩ := ahead_okk h; clear h; have h := h'
        have hs : (r.takeWhile isWordy).length + (r.dropWhile isWordy).length = r.length := by
          rw [← List.length_append, List.takeWhile_append_dropWhile]
        refine (ih _ _ us (by omega) (by omega) h).cons (.inl ⟨rfl, ?_⟩) (by simp; omega) (by simp; omega) (by simp; omega) (by simp) (by simp)
        simp only [wordB, hw, Bool.true_and]
        rw [List.all_eq_true]
        exact takeWhile_mem r
      by_cases hd : isDigit c = true
      · rw [lex_num p c r hd] at h
        split at h
        · cases h
        · rename_i hv
          obtain ⟨us, h', rfl⟩ := ahead_okk h; clear h; have h := h'
          have hs : (r.takeWhile isDigit).length + (r.dropWhile isDigit).length = r.length := by
            rw [← List.length_append, List.takeWhile_append_dropWhile]
          refine (ih _ _ us (by omega) (by omega) h).cons (.inr (.inl ⟨rfl, by simp, ?_⟩)) (by simp; omega) (by simp; omega) (by simp; omega) (by simp) (by simpa using hv)
          rw [List.all_eq_true]
          intro x hx
          rw [List.mem_cons] at hx
          rcases hx with rfl | hx
          · exact hd
          · exact takeWhile_mem r x hx
      by_cases ha : c.toNat = 45 ∧ (r.head?.map UInt8.toNat) = some 62
      · obtain ⟨h45, h62⟩ := ha
        cases r with
        | nil => simp at h62
        | cons x r =>
          simp at h62
          rw [lex_arrow p c r h45 x h62] at h
          obtain ⟨us, h', rfl⟩ := ahead_okk h; clear h; have h := h'
          simp only [List.length_cons] at hk hl
          exact (ih _ _ us (by omega) (by omega) h).cons (.inr (.inr ⟨rfl, .inl rfl⟩)) (by simp) (by simp; omega) (by simp) (by simp) (by simp)
      by_cases hg : isSign c = true
      · rw [lex_sign p c r hg] at h
        obtain ⟨us, h', rfl⟩ := ahead_okk h; clear h; have h := h'
        exact (ih _ _ us (by omega) (by omega) h).cons (.inr (.inr ⟨rfl, .inr ⟨c, hg, rfl⟩⟩)) (by simp) (by simp; omega) (by simp) (by simp) (by simp)
      · rw [lex_bad p c r hb hh (by simpa using hw) (by simpa using hd) ha (by simpa using hg)] at h
        cases h

theorem ahead_err {t : Tok} {x : Except (Nat × Nat) (List Tok)} {e : Nat × Nat} (h : ahead t x = .error e) : x = .error e := by
  cases x with
  | ok us => cases h
  | error e' => injection h with h; rw [h]
theorem lexL_err (k : Nat) : ∀ (l : List UInt8) (p : Nat) (e q : Nat), l.length ≤ k → lexL p l = .error (e, q) → e = 3 ∨ e = 6 := by
  induction k with
  | zero =>
    intro l p e q hk h
    have : l = [] := List.length_eq_zero_iff.1 (by omega)
    subst this
    rw [lex_nil] at h
    cases h
  | succ k ih =>
    intro l p e q hk h
    cases l with
    | nil =>
      rw [lex_nil] at h
      cases h
    | cons c r =>
      simp only [List.length_cons] at hk
      by_cases hb : isBlank c = true
      · rw [lex_blank p c r hb] at h
        exact ih r (p + 1) e q (by omega) h
      replace hb : isBlank c = false := by simpa using hb
      by_cases hh : c.toNat = 35
      · rw [lex_hash p c r hh] at h
        have hd := (List.dropWhile_suffix (l := r) (fun x : UInt8 => x.toNat != 10)).length_le
        exact ih _ _ e q (by omega) h
      by_cases hw : isSmall c = true
      · rw [lex_word p c r hw] at h
        have hs : (r.takeWhile isWordy).length + (r.dropWhile isWordy).length = r.length := by
          rw [← List.length_append, List.takeWhile_append_dropWhile]
        exact ih _ _ e q (by omega) (ahead_err h)
      by_cases hd : isDigit c = true
      · rw [lex_num p c r hd] at h
        split at h
        · injection h with h; injection h with h _; omega
        · have hs : (r.takeWhile isDigit).length + (r.dropWhile isDigit).length = r.length := by
            rw [← List.length_append, List.takeWhile_append_dropWhile]
          exact ih _ _ e q (by omega) (ahead_err h)
      by_cases ha : c.toNat = 45 ∧ (r.head?.map UInt8.toNat) = some 62
      · obtain ⟨h45, h62⟩ := ha
        cases r with
        | nil => simp at h62
        | cons x r =>
          simp at h62
          rw [lex_arrow p c r h45 x h62] at h
          simp only [List.length_cons] at hk
          exact ih _ _ e q (by omega) (ahead_err h)
      by_cases hg : isSign c = true
      · rw [lex_sign p c r hg] at h
        exact ih _ _ e q (by omega) (ahead_err h)
      · rw [lex_bad p c r hb hh (by simpa using hw) (by simpa using hd) ha (by simpa using hg)] at h
        injection h with h
        injection h with h _
        omega

/-- what a text comes to -/
def parseL (l : List UInt8) : Except (Int × Nat) Nt :=
  match lexL 0 l with
  | .error (e, p) => .error ((e : Int), p)
  | .ok ts => parseT ts
end Go.Proofs.Ytfiielibnnodkaa
