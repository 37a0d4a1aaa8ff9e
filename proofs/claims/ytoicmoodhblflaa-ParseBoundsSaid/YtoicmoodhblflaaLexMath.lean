/-
  Plain facts on tokens of bytes: words, numbers, signs, blanks and comments; what is dressed, what comes first.
  Conditions: none beyond each theorem's own.
-/
import Derived.Test.YtoicmoodhblflaaRows
namespace Go.Proofs.Ytoicmoodhblflaa
set_option linter.unusedVariables false

theorem tailLen {r : List UInt8} : r.tail.length ≤ r.length := by cases r <;> simp

def isSmall (c : UInt8) : Bool := decide (97 ≤ c.toNat ∧ c.toNat ≤ 122)
def isDigit (c : UInt8) : Bool := decide (48 ≤ c.toNat ∧ c.toNat ≤ 57)
def isWordy (c : UInt8) : Bool := isSmall c || isDigit c || c.toNat == 46
def isBlank (c : UInt8) : Bool := c.toNat == 32 || c.toNat == 9 || c.toNat == 10 || c.toNat == 13
def isSign (c : UInt8) : Bool := [59, 58, 44, 42, 33, 126, 64, 61].contains c.toNat

/-- a number's value -/
def valOf (l : List UInt8) : Nat := l.foldl (fun v c => v * 10 + (c.toNat - 48)) 0

/-- a token: its kind, its bytes, its number, where it begins -/
structure Tok where
  kind : Nat
  text : List UInt8
  num : Nat
  at_ : Nat
deriving DecidableEq

/-- the greatest number -/
abbrev maxNum : Nat := 1125899906842624

/-- the tokens of l, which stands from 'p' on; or the error, and where -/
def lexL (p : Nat) (l : List UInt8) : Except (Nat × Nat) (List Tok) :=
  match l with
  | [] => .ok [⟨0, [], 0, p⟩]
  | c :: r =>
    if isBlank c then lexL (p + 1) r
    else if c.toNat = 35 then lexL (p + 1 + (r.takeWhile (fun x => x.toNat != 10)).length) (r.dropWhile (fun x => x.toNat != 10))
    else if isSmall c then
      match lexL (p + 1 + (r.takeWhile isWordy).length) (r.dropWhile isWordy) with
      | .ok ts => .ok (⟨1, c :: r.takeWhile isWordy, 0, p⟩ :: ts)
      | .error e => .error e
    else if isDigit c then
      if maxNum < valOf (c :: r.takeWhile isDigit) then .error (3, p)
      else match lexL (p + 1 + (r.takeWhile isDigit).length) (r.dropWhile isDigit) with
        | .ok ts => .ok (⟨2, c :: r.takeWhile isDigit, valOf (c :: r.takeWhile isDigit), p⟩ :: ts)
        | .error e => .error e
    else if c.toNat = 45 ∧ (r.head?.map UInt8.toNat) = some 62 then
      match lexL (p + 2) r.tail with
      | .ok ts => .ok (⟨3, [45, 62], 0, p⟩ :: ts)
      | .error e => .error e
    else if isSign c then
      match lexL (p + 1) r with
      | .ok ts => .ok (⟨3, [c], 0, p⟩ :: ts)
      | .error e => .error e
    else .error (6, p)
termination_by l.length
decreasing_by
  all_goals simp_wf
  all_goals first
    | (have := (List.dropWhile_suffix (l := r) (fun x : UInt8 => x.toNat != 10)).length_le; omega)
    | (have := (List.dropWhile_suffix (l := r) isWordy).length_le; omega)
    | (have := (List.dropWhile_suffix (l := r) isDigit).length_le; omega)
    | omega

/-- a token ahead of what follows -/
def ahead (t : Tok) (x : Except (Nat × Nat) (List Tok)) : Except (Nat × Nat) (List Tok) :=
  match x with
  | .ok ts => .ok (t :: ts)
  | .error e => .error e

section
variable (p : Nat) (c : UInt8) (r : List UInt8)

theorem lex_nil : lexL p [] = .ok [⟨0, [], 0, p⟩] := by rw [lexL]

theorem lex_blank (h : isBlank c = true) : lexL p (c :: r) = lexL (p + 1) r := by rw [lexL]; simp [h]

theorem lex_hash (h : c.toNat = 35) : lexL p (c :: r) = lexL (p + 1 + (r.takeWhile (fun x => x.toNat != 10)).length) (r.dropWhile (fun x => x.toNat != 10)) := by
  have h1 : isBlank c = false := by simp [isBlank, h]
  rw [lexL]; simp [h, h1]

theorem lex_word (h : isSmall c = true) : lexL p (c :: r) = ahead ⟨1, c :: r.takeWhile isWordy, 0, p⟩ (lexL (p + 1 + (r.takeWhile isWordy).length) (r.dropWhile isWordy)) := by
  have h0 : 97 ≤ c.toNat ∧ c.toNat ≤ 122 := by simpa [isSmall] using h
  have h1 : isBlank c = false := by simp [isBlank]; omega
  have h2 : ¬ c.toNat = 35 := by omega
  rw [lexL]; simp only [h, h1, h2, Bool.false_eq_true, if_false, if_true, ahead]

theorem digit_not_small (h : isDigit c = true) : isSmall c = false := by
  have h0 : 48 ≤ c.toNat ∧ c.toNat ≤ 57 := by simpa [isDigit] using h
  simp [isSmall]; omega

theorem lex_num (h : isDigit c = true) : lexL p (c :: r) = if maxNum < valOf (c :: r.takeWhile isDigit) then .error (3, p) else ahead ⟨2, c :: r.takeWhile isDigit, valOf (c :: r.takeWhile isDigit), p⟩ (lexL (p + 1 + (r.takeWhile isDigit).length) (r.dropWhile isDigit)) := by
  have h0 : 48 ≤ c.toNat ∧ c.toNat ≤ 57 := by simpa [isDigit] using h
  have h1 : isBlank c = false := by simp [isBlank]; omega
  have h2 : ¬ c.toNat = 35 := by omega
  have h3 := digit_not_small c h
  rw [lexL]; simp only [h, h1, h2, h3, Bool.false_eq_true, if_false, if_true, ahead]

theorem lex_arrow (h : c.toNat = 45) (x : UInt8) (hx : x.toNat = 62) : lexL p (c :: x :: r) = ahead ⟨3, [45, 62], 0, p⟩ (lexL (p + 2) r) := by
  have h1 : isBlank c = false := by simp [isBlank, h]
  have h2 : ¬ c.toNat = 35 := by omega
  have h3 : isSmall c = false := by simp [isSmall, h]
  have h4 : isDigit c = false := by simp [isDigit, h]
  have h5 : c.toNat = 45 ∧ ((x :: r).head?.map UInt8.toNat) = some 62 := ⟨h, by simp [hx]⟩
  rw [lexL]; simp only [h1, h2, h3, h4, Bool.false_eq_true, if_false, if_pos h5, List.tail_cons, ahead]

theorem sign_facts (h : isSign c = true) : isBlank c = false ∧ ¬ c.toNat = 35 ∧ isSmall c = false ∧ isDigit c = false ∧ ¬ c.toNat = 45 := by
  have h0 : c.toNat = 59 ∨ c.toNat = 58 ∨ c.toNat = 44 ∨ c.toNat = 42 ∨ c.toNat = 33 ∨ c.toNat = 126 ∨ c.toNat = 64 ∨ c.toNat = 61 := by
    simpa [isSign] using h
  refine ⟨?_, by omega, ?_, ?_, by omega⟩
  · simp [isBlank]; omega
  · simp [isSmall]; omega
  · simp [isDigit]; omega

theorem lex_sign (h : isSign c = true) : lexL p (c :: r) = ahead ⟨3, [c], 0, p⟩ (lexL (p + 1) r) := by
  obtain ⟨h1, h2, h3, h4, h5⟩ := sign_facts c h
  have h6 : ¬ (c.toNat = 45 ∧ (r.head?.map UInt8.toNat) = some 62) := fun e => h5 e.1
  rw [lexL]; simp only [h, h1, h2, h3, h4, h6, Bool.false_eq_true, if_false, if_true, ahead]

theorem lex_bad (h1 : isBlank c = false) (h2 : ¬ c.toNat = 35) (h3 : isSmall c = false) (h4 : isDigit c = false) (h5 : ¬ (c.toNat = 45 ∧ (r.head?.map UInt8.toNat) = some 62)) (h6 : isSign c = false) : lexL p (c :: r) = .error (6, p) := by
  rw [lexL]; simp only [h1, h2, h3, h4, h5, h6, Bool.false_eq_true, if_false]

end

section
variable {α : Type} {P : α → Bool}

theorem take_stop (w : List α) (s : α) (r : List α) (hw : ∀ x ∈ w, P x = true) (hs : P s = false) : (w ++ s :: r).takeWhile P = w := by
  induction w with
  | nil => simp [hs]
  | cons x w ih => simp [hw x (by simp), ih (fun y hy => hw y (by simp [hy]))]

theorem drop_stop (w : List α) (s : α) (r : List α) (hw : ∀ x ∈ w, P x = true) (hs : P s = false) : (w ++ s :: r).dropWhile P = s :: r := by
  induction w with
  | nil => simp [hs]
  | cons x w ih => simp [hw x (by simp), ih (fun y hy => hw y (by simp [hy]))]

theorem take_all (w : List α) (hw : ∀ x ∈ w, P x = true) : w.takeWhile P = w ∧ w.dropWhile P = [] := by
  induction w with
  | nil => simp
  | cons x w ih =>
    obtain ⟨h1, h2⟩ := ih (fun y hy => hw y (by simp [hy]))
    simp [hw x (by simp), h1, h2]

/-- where a scan stops: k are taken, and the next one isn't -/
theorem take_len (l : List α) (k : Nat) (hk : k ≤ l.length) (h : ∀ i (hi : i < l.length), i < k → P l[i] = true) (hs : ∀ hk : k < l.length, P l[k] = false) : l.takeWhile P = l.take k ∧ l.dropWhile P = l.drop k := by
  induction l generalizing k with
  | nil => simp
  | cons x l ih =>
    cases k with
    | zero =>
      have := hs (by simp)
      simp at this
      simp [this]
    | succ k =>
      have h0 := h 0 (by simp) (by omega)
      simp at h0
      have := ih k (by simpa using hk) (fun i hi hik => by have := h (i + 1) (by simpa using hi) (by omega); simpa using this) (fun hk => by have := hs (by simpa using hk); simpa using this)
      simp [h0, this]

end

theorem snoc_ind {α : Type} {M : List α → Prop} (h0 : M []) (h1 : ∀ l c, M l → M (l ++ [c])) (l : List α) : M l := by
  have : ∀ k : List α, M k.reverse := by
    intro k
    induction k with
    | nil => exact h0
    | cons c k ih => rw [List.reverse_cons]; exact h1 _ _ ih
  have := this l.reverse
  rwa [List.reverse_reverse] at this

/-- line and column behind l -/
def placeL (l : List UInt8) : Nat × Nat := l.foldl (fun q c => if c.toNat = 10 then (q.1 + 1, 1) else (q.1, q.2 + 1)) (1, 1)

theorem placeL_snoc (l : List UInt8) (c : UInt8) : placeL (l ++ [c]) = if c.toNat = 10 then ((placeL l).1 + 1, 1) else ((placeL l).1, (placeL l).2 + 1) := by
  unfold placeL; rw [List.foldl_append]; rfl

theorem placeL_flat (l : List UInt8) (h : ∀ c ∈ l, c.toNat ≠ 10) : placeL l = (1, l.length + 1) := by
  revert h
  refine snoc_ind (M := fun l => (∀ c ∈ l, c.toNat ≠ 10) → placeL l = (1, l.length + 1)) (fun _ => rfl) ?_ l
  intro l c ih h
  rw [placeL_snoc, ih (fun x hx => h x (by simp [hx])), if_neg (h c (by simp))]
  simp

theorem valOf_snoc (l : List UInt8) (c : UInt8) : valOf (l ++ [c]) = valOf l * 10 + (c.toNat - 48) := by
  unfold valOf; rw [List.foldl_append]; rfl

theorem valOf_append (a b : List UInt8) : valOf (a ++ b) = valOf a * 10 ^ b.length + valOf b := by
  refine snoc_ind (M := fun b => valOf (a ++ b) = valOf a * 10 ^ b.length + valOf b) (by simp [valOf]) ?_ b
  intro b c ih
  rw [← List.append_assoc, valOf_snoc, valOf_snoc, ih, List.length_append]
  simp [Nat.pow_succ, Nat.add_mul, Nat.mul_assoc]
  omega

theorem valOf_cons (c : UInt8) (l : List UInt8) : valOf (c :: l) = (c.toNat - 48) * 10 ^ l.length + valOf l := by
  have := valOf_append [c] l
  simpa [valOf] using this

theorem valOf_zero (c : UInt8) (l : List UInt8) (h : c.toNat = 48) : valOf (c :: l) = valOf l := by rw [valOf_cons, h]; simp

/-- a blank, then digits alone -/
theorem lex_number (b c : UInt8) (ds : List UInt8) (hb : isBlank b = true) (hc : isDigit c = true) (hd : ∀ x ∈ ds, isDigit x = true) :
    lexL 0 (b :: c :: ds) = if maxNum < valOf (c :: ds) then .error (3, 1) else .ok [⟨2, c :: ds, valOf (c :: ds), 1⟩, ⟨0, [], 0, 1 + (c :: ds).length⟩] := by
  obtain ⟨h1, h2⟩ := take_all ds hd
  rw [lex_blank 0 b _ hb, lex_num _ c ds hc, h1, h2, lex_nil]
  have e : 0 + 1 + 1 + ds.length = 1 + (c :: ds).length := by simp; omega
  rw [e]
  rfl

/-- letters, each with a blank behind it -/
def letters (zs : List Nat) : List UInt8 := zs.flatMap (fun z => [UInt8.ofNat (97 + z % 26), 32])

theorem letter_small (z : Nat) : isSmall (UInt8.ofNat (97 + z % 26)) = true := by
  have h : (UInt8.ofNat (97 + z % 26)).toNat = 97 + z % 26 := by simp; omega
  have h2 : 97 ≤ (UInt8.ofNat (97 + z % 26)).toNat ∧ (UInt8.ofNat (97 + z % 26)).toNat ≤ 122 := by rw [h]; omega
  unfold isSmall
  exact decide_eq_true h2

theorem letters_len (zs : List Nat) : (letters zs).length = 2 * zs.length := by
  induction zs with
  | nil => rfl
  | cons z zs ih =>
    have : letters (z :: zs) = UInt8.ofNat (97 + z % 26) :: 32 :: letters zs := rfl
    rw [this, List.length_cons, List.length_cons, ih, List.length_cons]; omega

/-- behind plain words what is wrong is found first -/
theorem lex_behind (e : Nat) (bad : List UInt8) (hbad : ∀ p, lexL p bad = .error (e, p)) : ∀ (zs : List Nat) (p : Nat), lexL p (letters zs ++ bad) = .error (e, p + 2 * zs.length) := by
  intro zs
  induction zs with
  | nil => intro p; simpa [letters] using hbad p
  | cons z zs ih =>
    intro p
    have e1 : letters (z :: zs) ++ bad = UInt8.ofNat (97 + z % 26) :: 32 :: (letters zs ++ bad) := by simp [letters]
    have hw : isWordy 32 = false := by decide
    rw [e1, lex_word p _ _ (letter_small z)]
    have h1 : ((32 : UInt8) :: (letters zs ++ bad)).takeWhile isWordy = [] := by simp [hw]
    have h2 : ((32 : UInt8) :: (letters zs ++ bad)).dropWhile isWordy = 32 :: (letters zs ++ bad) := by simp [hw]
    rw [h1, h2, lex_blank _ 32 _ (by decide), ih]
    simp [ahead]
    omega

theorem lex_query (p : Nat) (more : List UInt8) : lexL p (63 :: more) = .error (6, p) := by
  refine lex_bad p 63 more (by decide) (by decide) (by decide) (by decide) ?_ (by decide)
  intro h
  exact absurd h.1 (by decide)

/-- digits whose number is too great, whatever stands behind them -/
theorem lex_over (p : Nat) (c : UInt8) (ds more : List UInt8) (hc : isDigit c = true) (hd : ∀ x ∈ ds, isDigit x = true) (hv : maxNum < valOf (c :: ds)) : lexL p (c :: (ds ++ more)) = .error (3, p) := by
  have h1 : (ds ++ more).takeWhile isDigit = ds ++ more.takeWhile isDigit := by
    clear hv
    induction ds with
    | nil => rfl
    | cons x ds ih => simp [hd x (by simp), ih (fun y hy => hd y (by simp [hy]))]
  rw [lex_num p c _ hc, h1, ← List.cons_append, valOf_append, if_pos]
  have : 1 ≤ 10 ^ (more.takeWhile isDigit).length := Nat.pow_pos (by omega)
  have : valOf (c :: ds) * 1 ≤ valOf (c :: ds) * 10 ^ (more.takeWhile isDigit).length := Nat.mul_le_mul_left _ this
  omega

/-- a token without its place -/
def strip (t : Tok) : Nat × List UInt8 × Nat := (t.kind, t.text, t.num)

/-- the words that are dressed: what each is as a token -/
def words12 : List (Nat × List UInt8 × Nat) := [(1, [112, 108, 97, 99, 101], 0), (1, [112, 46, 49], 0), (2, [49, 55], 17), (3, [59], 0), (3, [58], 0), (3, [44], 0), (3, [42], 0), (3, [33], 0), (3, [126], 0), (3, [64], 0), (3, [61], 0), (3, [45, 62], 0)]

/-- what they are dressed with -/
def dresses : List (List UInt8) := [[32], [10], [35, 32, 97, 32, 45, 62, 32, 98, 10], [9, 32, 13, 10], [35, 10, 35, 10]]

theorem lex_line (p : Nat) (w r : List UInt8) (hw : ∀ x ∈ w, (x.toNat != 10) = true) : lexL p (35 :: (w ++ 10 :: r)) = lexL (p + 1 + w.length) (10 :: r) := by
  rw [lex_hash p 35 _ (by decide), take_stop w 10 r hw (by decide), drop_stop w 10 r hw (by decide)]

theorem lex_dress {d : List UInt8} (hd : d ∈ dresses) (p : Nat) (r : List UInt8) : lexL p (d ++ r) = lexL (p + d.length) r := by
  simp only [dresses, List.mem_cons, List.not_mem_nil, or_false] at hd
  rcases hd with rfl | rfl | rfl | rfl | rfl
  · exact lex_blank p 32 r (by decide)
  · exact lex_blank p 10 r (by decide)
  · show lexL p (35 :: ([32, 97, 32, 45, 62, 32, 98] ++ 10 :: r)) = _
    rw [lex_line p _ r (by decide), lex_blank _ 10 r (by decide)]
    rfl
  · show lexL p (9 :: 32 :: 13 :: 10 :: r) = _
    rw [lex_blank _ 9 _ (by decide), lex_blank _ 32 _ (by decide), lex_blank _ 13 _ (by decide), lex_blank _ 10 _ (by decide)]
    rfl
  · show lexL p (35 :: ([] ++ 10 :: 35 :: 10 :: r)) = _
    rw [lex_line p [] _ (by decide), lex_blank _ 10 _ (by decide)]
    show lexL _ (35 :: ([] ++ 10 :: r)) = _
    rw [lex_line _ [] r (by decide), lex_blank _ 10 r (by decide)]
    rfl

/-- what a dress begins with ends a word and a number -/
theorem dress_head {d : List UInt8} (hd : d ∈ dresses) : ∃ x l, d = x :: l ∧ isWordy x = false ∧ isDigit x = false := by
  simp only [dresses, List.mem_cons, List.not_mem_nil, or_false] at hd
  rcases hd with rfl | rfl | rfl | rfl | rfl <;> exact ⟨_, _, rfl, by decide, by decide⟩

theorem lex_item {t : Nat × List UInt8 × Nat} (ht : t ∈ words12) {d : List UInt8} (hd : d ∈ dresses) (p : Nat) (r : List UInt8) : lexL p (t.2.1 ++ (d ++ r)) = ahead ⟨t.1, t.2.1, t.2.2, p⟩ (lexL (p + t.2.1.length + d.length) r) := by
  rw [← lex_dress hd]
  obtain ⟨x, l, rfl, hx1, hx2⟩ := dress_head hd
  simp only [words12, List.mem_cons, List.not_mem_nil, or_false] at ht
  rcases ht with rfl | rfl | rfl | rfl | rfl | rfl | rfl | rfl | rfl | rfl | rfl | rfl
  · show lexL p (112 :: ([108, 97, 99, 101] ++ x :: (l ++ r))) = _
    rw [lex_word p 112 _ (by decide), take_stop _ x _ (by decide) hx1, drop_stop _ x _ (by decide) hx1]
    rfl
  · show lexL p (112 :: ([46, 49] ++ x :: (l ++ r))) = _
    rw [lex_word p 112 _ (by decide), take_stop _ x _ (by decide) hx1, drop_stop _ x _ (by decide) hx1]
    rfl
  · show lexL p (49 :: ([55] ++ x :: (l ++ r))) = _
    rw [lex_num p 49 _ (by decide), take_stop _ x _ (by decide) hx2, drop_stop _ x _ (by decide) hx2, if_neg (by decide)]
    rfl
  all_goals first
    | exact lex_sign p _ _ (by decide)
    | exact lex_arrow p 45 _ (by decide) 62 (by decide)

/-- DRESSED OR NOT: the same tokens, but for their places -/
theorem lex_dressed : ∀ (items : List ((Nat × List UInt8 × Nat) × List UInt8)) (p : Nat), (∀ q ∈ items, q.1 ∈ words12 ∧ q.2 ∈ dresses) →
    ∃ ts, lexL p (items.flatMap (fun q => q.1.2.1 ++ q.2)) = .ok ts ∧ ts.map strip = items.map (fun q => q.1) ++ [(0, [], 0)] := by
  intro items
  induction items with
  | nil => intro p _; exact ⟨_, lex_nil p, rfl⟩
  | cons q items ih =>
    intro p h
    obtain ⟨h1, h2⟩ := h q (by simp)
    obtain ⟨ts, e1, e2⟩ := ih (p + q.1.2.1.length + q.2.length) (fun x hx => h x (by simp [hx]))
    refine ⟨⟨q.1.1, q.1.2.1, q.1.2.2, p⟩ :: ts, ?_, by simp [e2, strip]⟩
    rw [List.flatMap_cons, List.append_assoc, lex_item h1 h2, e1]
    rfl

/-- a word's bytes -/
def IsWord (l : List UInt8) : Prop := ∃ c w, l = c :: w ∧ isSmall c = true ∧ ∀ x ∈ w, isWordy x = true

theorem takeWhile_mem {α : Type} {P : α → Bool} (l : List α) : ∀ x ∈ l.takeWhile P, P x = true := by
  induction l with
  | nil => intro x hx; simp at hx
  | cons y l ih =>
    intro x hx
    by_cases hy : P y = true
    · simp [hy] at hx
      rcases hx with rfl | hx
      · exact hy
      · exact ih x hx
    · simp [hy] at hx

theorem ahead_ok {t : Tok} {x : Except (Nat × Nat) (List Tok)} {ts : List Tok} (h : ahead t x = .ok ts) : ∃ us, x = .ok us ∧ ts = t :: us := by
  cases x with
  | error e => simp [ahead] at h
  | ok us => simp [ahead] at h; exact ⟨us, rfl, h.symm⟩

/-- each token of kind 1 is a word -/
theorem word_text : ∀ (n : Nat) (l : List UInt8) (p : Nat) (ts : List Tok), l.length ≤ n → lexL p l = .ok ts → ∀ t ∈ ts, t.kind = 1 → IsWord t.text := by
  intro n
  induction n with
  | zero =>
    intro l p ts hl h t ht hk
    have : l = [] := List.eq_nil_of_length_eq_zero (by omega)
    subst this
    rw [lex_nil] at h
    injection h with h
    subst h
    simp at ht
    subst ht
    simp at hk
  | succ n ih =>
    intro l p ts hl h t ht hk
    cases l with
    | nil =>
      rw [lex_nil] at h
      injection h with h
      subst h
      simp at ht
      subst ht
      simp at hk
    | cons c r =>
      have hr : r.length ≤ n := by simpa using hl
      have dl : ∀ P : UInt8 → Bool, (r.dropWhile P).length ≤ n := fun P => Nat.le_trans (List.dropWhile_suffix (l := r) P).length_le hr
      by_cases h1 : isBlank c = true
      · rw [lex_blank p c r h1] at h; exact ih r _ ts hr h t ht hk
      by_cases h2 : c.toNat = 35
      · rw [lex_hash p c r h2] at h; exact ih _ _ ts (dl _) h t ht hk
      by_cases h3 : isSmall c = true
      · rw [lex_word p c r h3] at h
        obtain ⟨us, e1, rfl⟩ := ahead_ok h
        rcases List.mem_cons.1 ht with rfl | ht
        · exact ⟨c, _, rfl, h3, takeWhile_mem r⟩
        · exact ih _ _ us (dl _) e1 t ht hk
      by_cases h4 : isDigit c = true
      · rw [lex_num p c r h4] at h
        split at h
        · cases h
        · obtain ⟨us, e1, rfl⟩ := ahead_ok h
          rcases List.mem_cons.1 ht with rfl | ht
          · simp at hk
          · exact ih _ _ us (dl _) e1 t ht hk
      by_cases h5 : c.toNat = 45 ∧ (r.head?.map UInt8.toNat) = some 62
      · cases r with
        | nil => simp at h5
        | cons x r =>
          rw [lex_arrow p c r h5.1 x (by simpa using h5.2)] at h
          obtain ⟨us, e1, rfl⟩ := ahead_ok h
          rcases List.mem_cons.1 ht with rfl | ht
          · simp at hk
          · exact ih _ _ us (by simp at hr; omega) e1 t ht hk
      by_cases h6 : isSign c = true
      · rw [lex_sign p c r h6] at h
        obtain ⟨us, e1, rfl⟩ := ahead_ok h
        rcases List.mem_cons.1 ht with rfl | ht
        · simp at hk
        · exact ih _ _ us hr e1 t ht hk
      · rw [lex_bad p c r (by simpa using h1) h2 (by simpa using h3) (by simpa using h4) h5 (by simpa using h6)] at h
        cases h

theorem lex_isword {l : List UInt8} (h : IsWord l) : lexL 0 l = .ok [⟨1, l, 0, 0⟩, ⟨0, [], 0, l.length⟩] := by
  obtain ⟨c, w, rfl, hc, hw⟩ := h
  obtain ⟨h1, h2⟩ := take_all w hw
  rw [lex_word 0 c w hc, h1, h2, lex_nil]
  simp [ahead]
  omega

/-- WHICH BYTES ARE A WORD: just those whose tokens are one word, all of it, and the end -/
theorem word_iff (l : List UInt8) : IsWord l ↔ ∃ t u, lexL 0 l = .ok [t, u] ∧ t.kind = 1 ∧ t.text = l := by
  constructor
  · intro h; exact ⟨_, _, lex_isword h, rfl, rfl⟩
  · rintro ⟨t, u, h, hk, ht⟩
    have := word_text l.length l 0 _ (Nat.le_refl _) h t (by simp) hk
    rw [ht] at this
    exact this

end Go.Proofs.Ytoicmoodhblflaa
