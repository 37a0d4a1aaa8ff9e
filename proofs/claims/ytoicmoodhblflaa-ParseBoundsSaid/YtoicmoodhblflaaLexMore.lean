/-
  Plain facts on tokens of bytes, further: one token ahead of the rest; where a comment ends; lines and columns by the last end of line.
  Conditions: none beyond each theorem's own.
-/
import Derived.Test.YtoicmoodhblflaaLexMath
import Derived.Lib.BytesEntry
namespace Go.Proofs.Ytoicmoodhblflaa
set_option linter.unusedVariables false

/-- a byte as the int that its cell holds -/
def zi (x : UInt8) : Int := (x.toNat : Int)

theorem zi_bd (x : UInt8) : 0 ≤ zi x ∧ zi x ≤ 255 := by
  have := x.toNat_lt
  unfold zi; omega

def smallI (c : Int) : Bool := decide (97 ≤ c ∧ c ≤ 122)
def digitI (c : Int) : Bool := decide (48 ≤ c ∧ c ≤ 57)
def wordyI (c : Int) : Bool := smallI c || digitI c || decide (c = 46)

theorem small_zi (x : UInt8) : smallI (zi x) = isSmall x := by
  unfold smallI isSmall zi
  rw [Bool.eq_iff_iff]; simp; omega
theorem digit_zi (x : UInt8) : digitI (zi x) = isDigit x := by
  unfold digitI isDigit zi
  rw [Bool.eq_iff_iff]; simp; omega
theorem wordy_zi (x : UInt8) : wordyI (zi x) = isWordy x := by
  unfold wordyI isWordy
  rw [small_zi, digit_zi]
  congr 1
  unfold zi
  rw [Bool.eq_iff_iff]; simp; omega

/-- one token -/
def readL (p : Nat) (c : UInt8) (r : List UInt8) : Except Nat Tok :=
  if isSmall c then .ok ⟨1, c :: r.takeWhile isWordy, 0, p⟩
  else if isDigit c then
    if maxNum < valOf (c :: r.takeWhile isDigit) then .error 3 else .ok ⟨2, c :: r.takeWhile isDigit, valOf (c :: r.takeWhile isDigit), p⟩
  else if isSign c then .ok ⟨3, [c], 0, p⟩
  else if c.toNat = 45 ∧ (r.head?.map UInt8.toNat) = some 62 then .ok ⟨3, [45, 62], 0, p⟩
  else .error 6

theorem drop_take_len {α : Type} (P : α → Bool) (r : List α) : r.drop (r.takeWhile P).length = r.dropWhile P := by
  induction r with
  | nil => simp
  | cons x r ih => by_cases h : P x = true <;> simp [h, ih]

theorem lex_read (p : Nat) (c : UInt8) (r : List UInt8) (h1 : isBlank c = false) (h2 : ¬ c.toNat = 35) :
    lexL p (c :: r) = match readL p c r with | .error e => .error (e, p) | .ok t => ahead t (lexL (p + t.text.length) ((c :: r).drop t.text.length)) := by
  unfold readL
  by_cases h3 : isSmall c = true
  · rw [if_pos h3, lex_word p c r h3]
    simp only [List.length_cons, List.drop_succ_cons, drop_take_len]
    rw [show p + ((r.takeWhile isWordy).length + 1) = p + 1 + (r.takeWhile isWordy).length by omega]
  rw [if_neg h3]
  by_cases h4 : isDigit c = true
  · rw [if_pos h4, lex_num p c r h4]
    by_cases h5 : maxNum < valOf (c :: r.takeWhile isDigit)
    · rw [if_pos h5, if_pos h5]
    · rw [if_neg h5, if_neg h5]
      simp only [List.length_cons, List.drop_succ_cons, drop_take_len]
      rw [show p + ((r.takeWhile isDigit).length + 1) = p + 1 + (r.takeWhile isDigit).length by omega]
  rw [if_neg h4]
  by_cases h5 : isSign c = true
  · rw [if_pos h5, lex_sign p c r h5]
    rfl
  rw [if_neg h5]
  by_cases h6 : c.toNat = 45 ∧ (r.head?.map UInt8.toNat) = some 62
  · rw [if_pos h6]
    cases r with
    | nil => simp at h6
    | cons x r =>
      rw [lex_arrow p c r h6.1 x (by simpa using h6.2)]
      rfl
  · rw [if_neg h6]
    exact lex_bad p c r h1 h2 (by simpa using h3) (by simpa using h4) h6 (by simpa using h5)

/-- tokens ahead of what follows -/
def pre (ts : List Tok) (x : Except (Nat × Nat) (List Tok)) : Except (Nat × Nat) (List Tok) :=
  match x with
  | .ok us => .ok (ts ++ us)
  | .error e => .error e

theorem pre_nil (x : Except (Nat × Nat) (List Tok)) : pre [] x = x := by cases x <;> simp [pre]
theorem pre_ahead (ts : List Tok) (t : Tok) (x : Except (Nat × Nat) (List Tok)) : pre ts (ahead t x) = pre (ts ++ [t]) x := by cases x <;> simp [pre, ahead]

/-- a token's text is some bytes, no more than there are -/
theorem read_len {p : Nat} {c : UInt8} {r : List UInt8} {t : Tok} (h : readL p c r = .ok t) : 1 ≤ t.text.length ∧ t.text.length ≤ (c :: r).length ∧ t.at_ = p := by
  have tl : ∀ P : UInt8 → Bool, (r.takeWhile P).length ≤ r.length := fun P => (List.takeWhile_sublist (p := P) (l := r)).length_le
  have t1 := tl isWordy
  have t2 := tl isDigit
  unfold readL at h
  split at h
  · injection h with h; subst h; simp; omega
  split at h
  · split at h
    · cases h
    · injection h with h; subst h; simp; omega
  split at h
  · injection h with h; subst h; simp
  split at h
  · rename_i h6
    injection h with h; subst h
    cases r with
    | nil => simp at h6
    | cons x r => simp
  · cases h

/-- the first end of line -/
theorem index_take (l : List UInt8) : (Lib.indexByte l 10 = -1 ∧ l.dropWhile (fun x => x.toNat != 10) = [] ∧ (l.takeWhile (fun x => x.toNat != 10)).length = l.length) ∨
    ∃ k : Nat, Lib.indexByte l 10 = (k : Int) ∧ k < l.length ∧ l.dropWhile (fun x => x.toNat != 10) = l.drop k ∧ (l.takeWhile (fun x => x.toNat != 10)).length = k := by
  induction l with
  | nil => left; simp [Lib.indexByte]
  | cons x l ih =>
    by_cases hx : x = 10
    · subst hx
      right
      exact ⟨0, by simp [Lib.indexByte], by simp, by simp, by simp⟩
    · have hn : (x.toNat != 10) = true := by
        simp
        intro e
        exact hx (UInt8.toNat_inj.1 e)
      have hb : (x == 10) = false := by simpa using hx
      rcases ih with ⟨h1, h2, h3⟩ | ⟨k, h1, h2, h3, h4⟩
      · left
        refine ⟨?_, by simp [hn, h2], by simp [hn, h3]⟩
        unfold Lib.indexByte
        simp [hb, h1]
      · right
        refine ⟨k + 1, ?_, by simp; omega, by simp [hn, h3], by simp [hn, h4]⟩
        unfold Lib.indexByte
        have : ¬ ((k : Int) = -1) := by omega
        simp [hb, h1, this]

theorem lex_hash_none (p : Nat) (l : List UInt8) (c : UInt8) (r : List UInt8) (hl : l = c :: r) (hc : c.toNat = 35) (h : Lib.indexByte l 10 = -1) : lexL p l = lexL (p + l.length) [] := by
  subst hl
  rcases index_take (c :: r) with ⟨_, h2, h3⟩ | ⟨k, h1, _⟩
  · have hn : (c.toNat != 10) = true := by rw [hc]; rfl
    rw [lex_hash p c r hc]
    simp [hn] at h2 h3
    have e : r.dropWhile (fun x => x.toNat != 10) = [] := by
      rw [← drop_take_len, h3]; simp
    rw [h3, e]
    simp
    congr 1
    omega
  · rw [h] at h1; omega

theorem lex_hash_some (p : Nat) (l : List UInt8) (c : UInt8) (r : List UInt8) (hl : l = c :: r) (hc : c.toNat = 35) (k : Nat) (h : Lib.indexByte l 10 = (k : Int)) : lexL p l = lexL (p + k) (l.drop k) ∧ 1 ≤ k ∧ k < l.length := by
  subst hl
  rcases index_take (c :: r) with ⟨h1, _⟩ | ⟨j, h1, h2, h3, h4⟩
  · rw [h] at h1; omega
  · have e : j = k := by rw [h] at h1; omega
    subst e
    have hn : (c.toNat != 10) = true := by rw [hc]; rfl
    rw [lex_hash p c r hc]
    simp [hn] at h3 h4
    refine ⟨?_, by omega, h2⟩
    cases j with
    | zero => omega
    | succ j =>
      have h5 : (r.takeWhile (fun x => x.toNat != 10)).length = j := by omega
      rw [h5, ← drop_take_len, h5]
      simp
      congr 1
      omega

theorem placeL_flat_behind (a rest : List UInt8) (h : ∀ c ∈ rest, c.toNat ≠ 10) : placeL (a ++ rest) = ((placeL a).1, (placeL a).2 + rest.length) := by
  revert h
  refine snoc_ind (M := fun rest => (∀ c ∈ rest, c.toNat ≠ 10) → placeL (a ++ rest) = ((placeL a).1, (placeL a).2 + rest.length)) (fun _ => by simp) ?_ rest
  intro l c ih h
  rw [← List.append_assoc, placeL_snoc, ih (fun x hx => h x (by simp [hx])), if_neg (h c (by simp))]
  simp
  omega

/-- the line: how many ends of line there are -/
theorem placeL_line (l : List UInt8) : (placeL l).1 = Lib.countByte l 10 + 1 := by
  refine snoc_ind (M := fun l => (placeL l).1 = Lib.countByte l 10 + 1) rfl ?_ l
  intro l c ih
  rw [placeL_snoc]
  unfold Lib.countByte at *
  by_cases hc : c.toNat = 10
  · have e : c = 10 := UInt8.toNat_inj.1 hc
    subst e
    rw [if_pos hc]
    simp [ih]
  · have e : ¬ c = 10 := fun e => hc (by rw [e]; rfl)
    rw [if_neg hc]
    simp [ih, e]

/-- where the last end of line is -/
def LastNl (l : List UInt8) (k : Int) : Prop := (k = -1 ∧ ∀ c ∈ l, c.toNat ≠ 10) ∨ ∃ a rest, l = a ++ 10 :: rest ∧ k = (a.length : Int) ∧ ∀ c ∈ rest, c.toNat ≠ 10

theorem LastNl.col {l : List UInt8} {k : Int} (h : LastNl l k) : ((placeL l).2 : Int) = l.length - k := by
  rcases h with ⟨rfl, h⟩ | ⟨a, rest, rfl, rfl, h⟩
  · rw [placeL_flat l h]
    simp
  · have e : a ++ 10 :: rest = (a ++ [10]) ++ rest := by simp
    rw [e, placeL_flat_behind _ rest h, placeL_snoc]
    simp
    omega

theorem LastNl.bd {l : List UInt8} {k : Int} (h : LastNl l k) : -1 ≤ k ∧ k < l.length := by
  rcases h with ⟨rfl, h⟩ | ⟨a, rest, rfl, rfl, h⟩ <;> simp <;> omega

theorem placeL_bd (l : List UInt8) : 1 ≤ (placeL l).1 ∧ (placeL l).1 ≤ l.length + 1 ∧ 1 ≤ (placeL l).2 ∧ (placeL l).2 ≤ l.length + 1 := by
  refine snoc_ind (M := fun l => 1 ≤ (placeL l).1 ∧ (placeL l).1 ≤ l.length + 1 ∧ 1 ≤ (placeL l).2 ∧ (placeL l).2 ≤ l.length + 1) (by simp [placeL]) ?_ l
  intro l c ih
  rw [placeL_snoc]
  by_cases hc : c.toNat = 10
  · rw [if_pos hc]; simp; omega
  · rw [if_neg hc]; simp; omega

end Go.Proofs.Ytoicmoodhblflaa
