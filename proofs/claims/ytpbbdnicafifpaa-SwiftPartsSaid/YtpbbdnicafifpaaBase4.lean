/-
  What a call leaves alone: all blocks but some are as they were. Plain facts on tokens of bytes: words, numbers, signs, blanks and comments; what is dressed, what comes first. Plain facts on tokens of bytes, further: one token ahead of the rest; where a comment ends; lines and columns by the last end of line. A slice of bytes: what is known of its cells; cut at either end; as a string; of a string. What the small functions of lex, and of the document's own lexer, come to: letters, digits, what may stand in a word. append by an equation on what it comes to; a row of the call's own beside what changes elsewhere.
  Conditions: none beyond each theorem's own.
-/
import Derived.Test.YtpbbdnicafifpaaRows
import Derived.WalkKit
import Derived.RegionTactic
import Derived.Deep.QuietTactic
import Derived.BigQuiet
import Derived.Lib.Hide
import Derived.Lib.SmallJoins
import Derived.Deep.Draws
import Derived.Laws.OwnMore
import Derived.Lib.BytesEntry
import Derived.Laws.IdiomStrings
import Derived.Lib.SlBytesConst
import Derived.Laws.RangeAny
import Derived.Laws.Runes
import Derived.Lib.Walk
import Derived.Maps.AppendAt
import Derived.OwnWalk
/-! ## Kept -/
namespace Go.Proofs.Ytpbbdnicafifpaa
open Go.RowKit

/-- all blocks but those in S are as they were -/
structure Kept (S : Nat → Prop) (w w' : World) : Prop where
  os : w'.os = w.os
  tape : w'.tape = w.tape
  output : w'.output = w.output
  size : w.heap.size ≤ w'.heap.size
  block : ∀ k, k < w.heap.size → ¬ S k → w'.heap[k]? = w.heap[k]?

section
variable {S : Nat → Prop} {w w' w'' : World}

theorem Kept.refl (S : Nat → Prop) (w : World) : Kept S w w := ⟨rfl, rfl, rfl, Nat.le_refl _, fun _ _ _ => rfl⟩
theorem Kept.trans (h : Kept S w w') (k : Kept S w' w'') : Kept S w w'' :=
  ⟨k.os.trans h.os, k.tape.trans h.tape, k.output.trans h.output, Nat.le_trans h.size k.size, fun i hi hs => (k.block i (Nat.lt_of_lt_of_le hi h.size) hs).trans (h.block i hi hs)⟩
theorem Kept.of_below (h : Below w.heap.size w w') : Kept S w w' := ⟨h.os, h.tape, h.output, h.size, fun k hk _ => h.block k hk⟩
theorem Kept.drew (h : Kept S w w') : Kept S w w'.drew := ⟨h.os, h.tape, h.output, h.size, h.block⟩
theorem Kept.drewN (h : Kept S w w') (n : Nat) : Kept S w (w'.drewN n) := ⟨h.os, h.tape, h.output, h.size, h.block⟩
theorem Kept.alloc (h : Kept S w w') (o : Obj) : Kept S w (w'.alloc o) := h.trans (Kept.of_below ((Below.refl _ _).alloc (Nat.le_refl _) o))
theorem Kept.setCell (h : Kept S w w') {p : Addr} (hp : S p.block) (v : Value) : Kept S w (w'.setCell p v) :=
  h.trans ⟨rfl, rfl, rfl, by simp [World.setCell], fun k _ hk => Below.heap_setCell _ _ _ _ (fun e => hk (by rw [e]; exact hp))⟩
theorem Kept.grown (h : Kept S w w') {row : Option Nat} (hg : w'.grownBy w'' row) (hr : ∀ k, row = some k → S k) : Kept S w w'' :=
  h.trans ⟨hg.os, hg.tape, hg.output, hg.size, fun k hk hs => hg.block k hk (fun e => hs (hr k e.symm))⟩
theorem Kept.mono {T : Nat → Prop} (h : Kept S w w') (hST : ∀ k, k < w.heap.size → S k → T k) : Kept T w w' :=
  ⟨h.os, h.tape, h.output, h.size, fun k hk ht => h.block k hk (fun hs => ht (hST k hk hs))⟩
theorem Kept.below {B : Nat} (h : Kept S w w') (hB : ∀ k, S k → B ≤ k) (hs : B ≤ w.heap.size) : Below B w w' :=
  ⟨h.os, h.tape, h.output, h.size, fun k hk => h.block k (by omega) (fun hS => by have := hB k hS; omega)⟩
theorem Kept.cell (h : Kept S w w') {b o : Nat} {v : Value} (hb : b < w.heap.size) (hs : ¬ S b) (hc : w.cell? ⟨b, o, none⟩ = some v) : w'.cell? ⟨b, o, none⟩ = some v :=
  (World.cell?_of_block (w := w) (a := ⟨b, o, none⟩) (h.block b hb hs)).trans hc
theorem Kept.froz (h : Kept S w w') {b o : Nat} (hb : b < w.heap.size) (hs : ¬ S b) (hc : w.frozen? ⟨b, o, none⟩ = false) : w'.frozen? ⟨b, o, none⟩ = false :=
  (World.frozen?_of_block (w := w) (a := ⟨b, o, none⟩) (h.block b hb hs)).trans hc

end

end Go.Proofs.Ytpbbdnicafifpaa

/-! ## LexMath -/
namespace Go.Proofs.Ytpbbdnicafifpaa
set_option linter.unusedVariables false

theorem tailLen {r : List UInt8} : r.tail.length ≤ r.length := by cases r <;> simp

def isSmall (c : UInt8) : Bool := decide (97 ≤ c.toNat ∧ c.toNat ≤ 122)
def isDigit (c : UInt8) : Bool := decide (48 ≤ c.toNat ∧ c.toNat ≤ 57)
def isWordy (c : UInt8) : Bool := isSmall c || isDigit c || c.toNat == 46
def isBlank (c : UInt8) : Bool := c.toNat == 32 || c.toNat == 9 || c.toNat == 10 || c.toNat == 13
def isSign (c : UInt8) : Bool := [59, 58, 44, 42, 33, 126, 64, 61].contains c.toNat

/-- a number's value -/
def valOf (l : List UInt8) : Nat := l.foldl (fun v c => v * 10 + (c.toNat - 48)) 0

/-- a token: its kind, its bytes, its number, where it begins -/
structure Tok where
  kind : Nat
  text : List UInt8
  num : Nat
  at_ : Nat
deriving DecidableEq

/-- the greatest number -/
abbrev maxNum : Nat := 1125899906842624

/-- the tokens of l, which stands from 'p' on; or the error, and where -/
def lexL (p : Nat) (l : List UInt8) : Except (Nat × Nat) (List Tok) :=
  match l with
  | [] => .ok [⟨0, [], 0, p⟩]
  | c :: r =>
    if isBlank c then lexL (p + 1) r
    else if c.toNat = 35 then lexL (p + 1 + (r.takeWhile (fun x => x.toNat != 10)).length) (r.dropWhile (fun x => x.toNat != 10))
    else if isSmall c then
      match lexL (p + 1 + (r.takeWhile isWordy).length) (r.dropWhile isWordy) with
      | .ok ts => .ok (⟨1, c :: r.takeWhile isWordy, 0, p⟩ :: ts)
      | .error e => .error e
    else if isDigit c then
      if maxNum < valOf (c :: r.takeWhile isDigit) then .error (3, p)
      else match lexL (p + 1 + (r.takeWhile isDigit).length) (r.dropWhile isDigit) with
        | .ok ts => .ok (⟨2, c :: r.takeWhile isDigit, valOf (c :: r.takeWhile isDigit), p⟩ :: ts)
        | .error e => .error e
    else if c.toNat = 45 ∧ (r.head?.map UInt8.toNat) = some 62 then
      match lexL (p + 2) r.tail with
      | .ok ts => .ok (⟨3, [45, 62], 0, p⟩ :: ts)
      | .error e => .error e
    else if isSign c then
      match lexL (p + 1) r with
      | .ok ts => .ok (⟨3, [c], 0, p⟩ :: ts)
      | .error e => .error e
    else .error (6, p)
termination_by l.length
decreasing_by
  all_goals simp_wf
  all_goals first
    | (have := (List.dropWhile_suffix (l := r) (fun x : UInt8 => x.toNat != 10)).length_le; omega)
    | (have := (List.dropWhile_suffix (l := r) isWordy).length_le; omega)
    | (have := (List.dropWhile_suffix (l := r) isDigit).length_le; omega)
    | omega

/-- a token ahead of what follows -/
def ahead (t : Tok) (x : Except (Nat × Nat) (List Tok)) : Except (Nat × Nat) (List Tok) :=
  match x with
  | .ok ts => .ok (t :: ts)
  | .error e => .error e

section
variable (p : Nat) (c : UInt8) (r : List UInt8)

theorem lex_nil : lexL p [] = .ok [⟨0, [], 0, p⟩] := by rw [lexL]

theorem lex_blank (h : isBlank c = true) : lexL p (c :: r) = lexL (p + 1) r := by rw [lexL]; simp [h]

theorem lex_hash (h : c.toNat = 35) : lexL p (c :: r) = lexL (p + 1 + (r.takeWhile (fun x => x.toNat != 10)).length) (r.dropWhile (fun x => x.toNat != 10)) := by
  have h1 : isBlank c = false := by simp [isBlank, h]
  rw [lexL]; simp [h, h1]

theorem lex_word (h : isSmall c = true) : lexL p (c :: r) = ahead ⟨1, c :: r.takeWhile isWordy, 0, p⟩ (lexL (p + 1 + (r.takeWhile isWordy).length) (r.dropWhile isWordy)) := by
  have h0 : 97 ≤ c.toNat ∧ c.toNat ≤ 122 := by simpa [isSmall] using h
  have h1 : isBlank c = false := by simp [isBlank]; omega
  have h2 : ¬ c.toNat = 35 := by omega
  rw [lexL]; simp only [h, h1, h2, Bool.false_eq_true, if_false, if_true, ahead]

theorem digit_not_small (h : isDigit c = true) : isSmall c = false := by
  have h0 : 48 ≤ c.toNat ∧ c.toNat ≤ 57 := by simpa [isDigit] using h
  simp [isSmall]; omega

theorem lex_num (h : isDigit c = true) : lexL p (c :: r) = if maxNum < valOf (c :: r.takeWhile isDigit) then .error (3, p) else ahead ⟨2, c :: r.takeWhile isDigit, valOf (c :: r.takeWhile isDigit), p⟩ (lexL (p + 1 + (r.takeWhile isDigit).length) (r.dropWhile isDigit)) := by
  have h0 : 48 ≤ c.toNat ∧ c.toNat ≤ 57 := by simpa [isDigit] using h
  have h1 : isBlank c = false := by simp [isBlank]; omega
  have h2 : ¬ c.toNat = 35 := by omega
  have h3 := digit_not_small c h
  rw [lexL]; simp only [h, h1, h2, h3, Bool.false_eq_true, if_false, if_true, ahead]

theorem lex_arrow (h : c.toNat = 45) (x : UInt8) (hx : x.toNat = 62) : lexL p (c :: x :: r) = ahead ⟨3, [45, 62], 0, p⟩ (lexL (p + 2) r) := by
  have h1 : isBlank c = false := by simp [isBlank, h]
  have h2 : ¬ c.toNat = 35 := by omega
  have h3 : isSmall c = false := by simp [isSmall, h]
  have h4 : isDigit c = false := by simp [isDigit, h]
  have h5 : c.toNat = 45 ∧ ((x :: r).head?.map UInt8.toNat) = some 62 := ⟨h, by simp [hx]⟩
  rw [lexL]; simp only [h1, h2, h3, h4, Bool.false_eq_true, if_false, if_pos h5, List.tail_cons, ahead]

theorem sign_facts (h : isSign c = true) : isBlank c = false ∧ ¬ c.toNat = 35 ∧ isSmall c = false ∧ isDigit c = false ∧ ¬ c.toNat = 45 := by
  have h0 : c.toNat = 59 ∨ c.toNat = 58 ∨ c.toNat = 44 ∨ c.toNat = 42 ∨ c.toNat = 33 ∨ c.toNat = 126 ∨ c.toNat = 64 ∨ c.toNat = 61 := by
    simpa [isSign] using h
  refine ⟨?_, by omega, ?_, ?_, by omega⟩
  · simp [isBlank]; omega
  · simp [isSmall]; omega
  · simp [isDigit]; omega

theorem lex_sign (h : isSign c = true) : lexL p (c :: r) = ahead ⟨3, [c], 0, p⟩ (lexL (p + 1) r) := by
  obtain ⟨h1, h2, h3, h4, h5⟩ := sign_facts c h
  have h6 : ¬ (c.toNat = 45 ∧ (r.head?.map UInt8.toNat) = some 62) := fun e => h5 e.1
  rw [lexL]; simp only [h, h1, h2, h3, h4, h6, Bool.false_eq_true, if_false, if_true, ahead]

theorem lex_bad (h1 : isBlank c = false) (h2 : ¬ c.toNat = 35) (h3 : isSmall c = false) (h4 : isDigit c = false) (h5 : ¬ (c.toNat = 45 ∧ (r.head?.map UInt8.toNat) = some 62)) (h6 : isSign c = false) : lexL p (c :: r) = .error (6, p) := by
  rw [lexL]; simp only [h1, h2, h3, h4, h5, h6, Bool.false_eq_true, if_false]

end

section
variable {α : Type} {P : α → Bool}

theorem take_stop (w : List α) (s : α) (r : List α) (hw : ∀ x ∈ w, P x = true) (hs : P s = false) : (w ++ s :: r).takeWhile P = w := by
  induction w with
  | nil => simp [hs]
  | cons x w ih => simp [hw x (by simp), ih (fun y hy => hw y (by simp [hy]))]

theorem drop_stop (w : List α) (s : α) (r : List α) (hw : ∀ x ∈ w, P x = true) (hs : P s = false) : (w ++ s :: r).dropWhile P = s :: r := by
  induction w with
  | nil => simp [hs]
  | cons x w ih => simp [hw x (by simp), ih (fun y hy => hw y (by simp [hy]))]

theorem take_all (w : List α) (hw : ∀ x ∈ w, P x = true) : w.takeWhile P = w ∧ w.dropWhile P = [] := by
  induction w with
  | nil => simp
  | cons x w ih =>
    obtain ⟨h1, h2⟩ := ih (fun y hy => hw y (by simp [hy]))
    simp [hw x (by simp), h1, h2]

/-- where a scan stops: k are taken, and the next one isn't -/
theorem take_len (l : List α) (k : Nat) (hk : k ≤ l.length) (h : ∀ i (hi : i < l.length), i < k → P l[i] = true) (hs : ∀ hk : k < l.length, P l[k] = false) : l.takeWhile P = l.take k ∧ l.dropWhile P = l.drop k := by
  induction l generalizing k with
  | nil => simp
  | cons x l ih =>
    cases k with
    | zero =>
      have := hs (by simp)
      simp at this
      simp [this]
    | succ k =>
      have h0 := h 0 (by simp) (by omega)
      simp at h0
      have := ih k (by simpa using hk) (fun i hi hik => by have := h (i + 1) (by simpa using hi) (by omega); simpa using this) (fun hk => by have := hs (by simpa using hk); simpa using this)
      simp [h0, this]

end

theorem snoc_ind {α : Type} {M : List α → Prop} (h0 : M []) (h1 : ∀ l c, M l → M (l ++ [c])) (l : List α) : M l := by
  have : ∀ k : List α, M k.reverse := by
    intro k
    induction k with
    | nil => exact h0
    | cons c k ih => rw [List.reverse_cons]; exact h1 _ _ ih
  have := this l.reverse
  rwa [List.reverse_reverse] at this

/-- line and column behind l -/
def placeL (l : List UInt8) : Nat × Nat := l.foldl (fun q c => if c.toNat = 10 then (q.1 + 1, 1) else (q.1, q.2 + 1)) (1, 1)

theorem placeL_snoc (l : List UInt8) (c : UInt8) : placeL (l ++ [c]) = if c.toNat = 10 then ((placeL l).1 + 1, 1) else ((placeL l).1, (placeL l).2 + 1) := by
  unfold placeL; rw [List.foldl_append]; rfl

theorem placeL_flat (l : List UInt8) (h : ∀ c ∈ l, c.toNat ≠ 10) : placeL l = (1, l.length + 1) := by
  revert h
  refine snoc_ind (M := fun l => (∀ c ∈ l, c.toNat ≠ 10) → placeL l = (1, l.length + 1)) (fun _ => rfl) ?_ l
  intro l c ih h
  rw [placeL_snoc, ih (fun x hx => h x (by simp [hx])), if_neg (h c (by simp))]
  simp

theorem valOf_snoc (l : List UInt8) (c : UInt8) : valOf (l ++ [c]) = valOf l * 10 + (c.toNat - 48) := by
  unfold valOf; rw [List.foldl_append]; rfl

theorem valOf_append (a b : List UInt8) : valOf (a ++ b) = valOf a * 10 ^ b.length + valOf b := by
  refine snoc_ind (M := fun b => valOf (a ++ b) = valOf a * 10 ^ b.length + valOf b) (by simp [valOf]) ?_ b
  intro b c ih
  rw [← List.append_assoc, valOf_snoc, valOf_snoc, ih, List.length_append]
  simp [Nat.pow_succ, Nat.add_mul, Nat.mul_assoc]
  omega

theorem valOf_cons (c : UInt8) (l : List UInt8) : valOf (c :: l) = (c.toNat - 48) * 10 ^ l.length + valOf l := by
  have := valOf_append [c] l
  simpa [valOf] using this

theorem valOf_zero (c : UInt8) (l : List UInt8) (h : c.toNat = 48) : valOf (c :: l) = valOf l := by rw [valOf_cons, h]; simp

/-- a blank, then digits alone -/
theorem lex_number (b c : UInt8) (ds : List UInt8) (hb : isBlank b = true) (hc : isDigit c = true) (hd : ∀ x ∈ ds, isDigit x = true) :
    lexL 0 (b :: c :: ds) = if maxNum < valOf (c :: ds) then .error (3, 1) else .ok [⟨2, c :: ds, valOf (c :: ds), 1⟩, ⟨0, [], 0, 1 + (c :: ds).length⟩] := by
  obtain ⟨h1, h2⟩ := take_all ds hd
  rw [lex_blank 0 b _ hb, lex_num _ c ds hc, h1, h2, lex_nil]
  have e : 0 + 1 + 1 + ds.length = 1 + (c :: ds).length := by simp; omega
  rw [e]
  rfl

/-- letters, each with a blank behind it -/
def letters (zs : List Nat) : List UInt8 := zs.flatMap (fun z => [UInt8.ofNat (97 + z % 26), 32])

theorem letter_small (z : Nat) : isSmall (UInt8.ofNat (97 + z % 26)) = true := by
  have h : (UInt8.ofNat (97 + z % 26)).toNat = 97 + z % 26 := by simp; omega
  have h2 : 97 ≤ (UInt8.ofNat (97 + z % 26)).toNat ∧ (UInt8.ofNat (97 + z % 26)).toNat ≤ 122 := by rw [h]; omega
  unfold isSmall
  exact decide_eq_true h2

theorem letters_len (zs : List Nat) : (letters zs).length = 2 * zs.length := by
  induction zs with
  | nil => rfl
  | cons z zs ih =>
    have : letters (z :: zs) = UInt8.ofNat (97 + z % 26) :: 32 :: letters zs := rfl
    rw [this, List.length_cons, List.length_cons, ih, List.length_cons]; omega

/-- behind plain words what is wrong is found first -/
theorem lex_behind (e : Nat) (bad : List UInt8) (hbad : ∀ p, lexL p bad = .error (e, p)) : ∀ (zs : List Nat) (p : Nat), lexL p (letters zs ++ bad) = .error (e, p + 2 * zs.length) := by
  intro zs
  induction zs with
  | nil => intro p; simpa [letters] using hbad p
  | cons z zs ih =>
    intro p
    have e1 : letters (z :: zs) ++ bad = UInt8.ofNat (97 + z % 26) :: 32 :: (letters zs ++ bad) := by simp [letters]
    have hw : isWordy 32 = false := by decide
    rw [e1, lex_word p _ _ (letter_small z)]
    have h1 : ((32 : UInt8) :: (letters zs ++ bad)).takeWhile isWordy = [] := by simp [hw]
    have h2 : ((32 : UInt8) :: (letters zs ++ bad)).dropWhile isWordy = 32 :: (letters zs ++ bad) := by simp [hw]
    rw [h1, h2, lex_blank _ 32 _ (by decide), ih]
    simp [ahead]
    omega

theorem lex_query (p : Nat) (more : List UInt8) : lexL p (63 :: more) = .error (6, p) := by
  refine lex_bad p 63 more (by decide) (by decide) (by decide) (by decide) ?_ (by decide)
  intro h
  exact absurd h.1 (by decide)

/-- digits whose number is too great, whatever stands behind them -/
theorem lex_over (p : Nat) (c : UInt8) (ds more : List UInt8) (hc : isDigit c = true) (hd : ∀ x ∈ ds, isDigit x = true) (hv : maxNum < valOf (c :: ds)) : lexL p (c :: (ds ++ more)) = .error (3, p) := by
  have h1 : (ds ++ more).takeWhile isDigit = ds ++ more.takeWhile isDigit := by
    clear hv
    induction ds with
    | nil => rfl
    | cons x ds ih => simp [hd x (by simp), ih (fun y hy => hd y (by simp [hy]))]
  rw [lex_num p c _ hc, h1, ← List.cons_append, valOf_append, if_pos]
  have : 1 ≤ 10 ^ (more.takeWhile isDigit).length := Nat.pow_pos (by omega)
  have : valOf (c :: ds) * 1 ≤ valOf (c :: ds) * 10 ^ (more.takeWhile isDigit).length := Nat.mul_le_mul_left _ this
  omega

/-- a token without its place -/
def strip (t : Tok) : Nat × List UInt8 × Nat := (t.kind, t.text, t.num)

/-- the words that are dressed: what each is as a token -/
def words12 : List (Nat × List UInt8 × Nat) := [(1, [112, 108, 97, 99, 101], 0), (1, [112, 46, 49], 0), (2, [49, 55], 17), (3, [59], 0), (3, [58], 0), (3, [44], 0), (3, [42], 0), (3, [33], 0), (3, [126], 0), (3, [64], 0), (3, [61], 0), (3, [45, 62], 0)]

/-- what they are dressed with -/
def dresses : List (List UInt8) := [[32], [10], [35, 32, 97, 32, 45, 62, 32, 98, 10], [9, 32, 13, 10], [35, 10, 35, 10]]

theorem lex_line (p : Nat) (w r : List UInt8) (hw : ∀ x ∈ w, (x.toNat != 10) = true) : lexL p (35 :: (w ++ 10 :: r)) = lexL (p + 1 + w.length) (10 :: r) := by
  rw [lex_hash p 35 _ (by decide), take_stop w 10 r hw (by decide), drop_stop w 10 r hw (by decide)]

theorem lex_dress {d : List UInt8} (hd : d ∈ dresses) (p : Nat) (r : List UInt8) : lexL p (d ++ r) = lexL (p + d.length) r := by
  simp only [dresses, List.mem_cons, List.not_mem_nil, or_false] at hd
  rcases hd with rfl | rfl | rfl | rfl | rfl
  · exact lex_blank p 32 r (by decide)
  · exact lex_blank p 10 r (by decide)
  · show lexL p (35 :: ([32, 97, 32, 45, 62, 32, 98] ++ 10 :: r)) = _
    rw [lex_line p _ r (by decide), lex_blank _ 10 r (by decide)]
    rfl
  · show lexL p (9 :: 32 :: 13 :: 10 :: r) = _
    rw [lex_blank _ 9 _ (by decide), lex_blank _ 32 _ (by decide), lex_blank _ 13 _ (by decide), lex_blank _ 10 _ (by decide)]
    rfl
  · show lexL p (35 :: ([] ++ 10 :: 35 :: 10 :: r)) = _
    rw [lex_line p [] _ (by decide), lex_blank _ 10 _ (by decide)]
    show lexL _ (35 :: ([] ++ 10 :: r)) = _
    rw [lex_line _ [] r (by decide), lex_blank _ 10 r (by decide)]
    rfl

/-- what a dress begins with ends a word and a number -/
theorem dress_head {d : List UInt8} (hd : d ∈ dresses) : ∃ x l, d = x :: l ∧ isWordy x = false ∧ isDigit x = false := by
  simp only [dresses, List.mem_cons, List.not_mem_nil, or_false] at hd
  rcases hd with rfl | rfl | rfl | rfl | rfl <;> exact ⟨_, _, rfl, by decide, by decide⟩

theorem lex_item {t : Nat × List UInt8 × Nat} (ht : t ∈ words12) {d : List UInt8} (hd : d ∈ dresses) (p : Nat) (r : List UInt8) : lexL p (t.2.1 ++ (d ++ r)) = ahead ⟨t.1, t.2.1, t.2.2, p⟩ (lexL (p + t.2.1.length + d.length) r) := by
  rw [← lex_dress hd]
  obtain ⟨x, l, rfl, hx1, hx2⟩ := dress_head hd
  simp only [words12, List.mem_cons, List.not_mem_nil, or_false] at ht
  rcases ht with rfl | rfl | rfl | rfl | rfl | rfl | rfl | rfl | rfl | rfl | rfl | rfl
  · show lexL p (112 :: ([108, 97, 99, 101] ++ x :: (l ++ r))) = _
    rw [lex_word p 112 _ (by decide), take_stop _ x _ (by decide) hx1, drop_stop _ x _ (by decide) hx1]
    rfl
  · show lexL p (112 :: ([46, 49] ++ x :: (l ++ r))) = _
    rw [lex_word p 112 _ (by decide), take_stop _ x _ (by decide) hx1, drop_stop _ x _ (by decide) hx1]
    rfl
  · show lexL p (49 :: ([55] ++ x :: (l ++ r))) = _
    rw [lex_num p 49 _ (by decide), take_stop _ x _ (by decide) hx2, drop_stop _ x _ (by decide) hx2, if_neg (by decide)]
    rfl
  all_goals first
    | exact lex_sign p _ _ (by decide)
    | exact lex_arrow p 45 _ (by decide) 62 (by decide)

/-- DRESSED OR NOT: the same tokens, but for their places -/
theorem lex_dressed : ∀ (items : List ((Nat × List UInt8 × Nat) × List UInt8)) (p : Nat), (∀ q ∈ items, q.1 ∈ words12 ∧ q.2 ∈ dresses) →
    ∃ ts, lexL p (items.flatMap (fun q => q.1.2.1 ++ q.2)) = .ok ts ∧ ts.map strip = items.map (fun q => q.1) ++ [(0, [], 0)] := by
  intro items
  induction items with
  | nil => intro p _; exact ⟨_, lex_nil p, rfl⟩
  | cons q items ih =>
    intro p h
    obtain ⟨h1, h2⟩ := h q (by simp)
    obtain ⟨ts, e1, e2⟩ := ih (p + q.1.2.1.length + q.2.length) (fun x hx => h x (by simp [hx]))
    refine ⟨⟨q.1.1, q.1.2.1, q.1.2.2, p⟩ :: ts, ?_, by simp [e2, strip]⟩
    rw [List.flatMap_cons, List.append_assoc, lex_item h1 h2, e1]
    rfl

/-- a word's bytes -/
def IsWord (l : List UInt8) : Prop := ∃ c w, l = c :: w ∧ isSmall c = true ∧ ∀ x ∈ w, isWordy x = true

theorem takeWhile_mem {α : Type} {P : α → Bool} (l : List α) : ∀ x ∈ l.takeWhile P, P x = true := by
  induction l with
  | nil => intro x hx; simp at hx
  | cons y l ih =>
    intro x hx
    by_cases hy : P y = true
    · simp [hy] at hx
      rcases hx with rfl | hx
      · exact hy
      · exact ih x hx
    · simp [hy] at hx

theorem ahead_ok {t : Tok} {x : Except (Nat × Nat) (List Tok)} {ts : List Tok} (h : ahead t x = .ok ts) : ∃ us, x = .ok us ∧ ts = t :: us := by
  cases x with
  | error e => simp [ahead] at h
  | ok us => simp [ahead] at h; exact ⟨us, rfl, h.symm⟩

/-- each token of kind 1 is a word -/
theorem word_text : ∀ (n : Nat) (l : List UInt8) (p : Nat) (ts : List Tok), l.length ≤ n → lexL p l = .ok ts → ∀ t ∈ ts, t.kind = 1 → IsWord t.text := by
  intro n
  induction n with
  | zero =>
    intro l p ts hl h t ht hk
    have : l = [] := List.eq_nil_of_length_eq_zero (by omega)
    subst this
    rw [lex_nil] at h
    injection h with h
    subst h
    simp at ht
    subst ht
    simp at hk
  | succ n ih =>
    intro l p ts hl h t ht hk
    cases l with
    | nil =>
      rw [lex_nil] at h
      injection h with h
      subst h
      simp at ht
      subst ht
      simp at hk
    | cons c r =>
      have hr : r.length ≤ n := by simpa using hl
      have dl : ∀ P : UInt8 → Bool, (r.dropWhile P).length ≤ n := fun P => Nat.le_trans (List.dropWhile_suffix (l := r) P).length_le hr
      by_cases h1 : isBlank c = true
      · rw [lex_blank p c r h1] at h; exact ih r _ ts hr h t ht hk
      by_cases h2 : c.toNat = 35
      · rw [lex_hash p c r h2] at h; exact ih _ _ ts (dl _) h t ht hk
      by_cases h3 : isSmall c = true
      · rw [lex_word p c r h3] at h
        obtain ⟨us, e1, rfl⟩ := ahead_ok h
        rcases List.mem_cons.1 ht with rfl | ht
        · exact ⟨c, _, rfl, h3, takeWhile_mem r⟩
        · exact ih _ _ us (dl _) e1 t ht hk
      by_cases h4 : isDigit c = true
      · rw [lex_num p c r h4] at h
        split at h
        · cases h
        · obtain ⟨us, e1, rfl⟩ := ahead_ok h
          rcases List.mem_cons.1 ht with rfl | ht
          · simp at hk
          · exact ih _ _ us (dl _) e1 t ht hk
      by_cases h5 : c.toNat = 45 ∧ (r.head?.map UInt8.toNat) = some 62
      · cases r with
        | nil => simp at h5
        | cons x r =>
          rw [lex_arrow p c r h5.1 x (by simpa using h5.2)] at h
          obtain ⟨us, e1, rfl⟩ := ahead_ok h
          rcases List.mem_cons.1 ht with rfl | ht
          · simp at hk
          · exact ih _ _ us (by simp at hr; omega) e1 t ht hk
      by_cases h6 : isSign c = true
      · rw [lex_sign p c r h6] at h
        obtain ⟨us, e1, rfl⟩ := ahead_ok h
        rcases List.mem_cons.1 ht with rfl | ht
        · simp at hk
        · exact ih _ _ us hr e1 t ht hk
      · rw [lex_bad p c r (by simpa using h1) h2 (by simpa using h3) (by simpa using h4) h5 (by simpa using h6)] at h
        cases h

theorem lex_isword {l : List UInt8} (h : IsWord l) : lexL 0 l = .ok [⟨1, l, 0, 0⟩, ⟨0, [], 0, l.length⟩] := by
  obtain ⟨c, w, rfl, hc, hw⟩ := h
  obtain ⟨h1, h2⟩ := take_all w hw
  rw [lex_word 0 c w hc, h1, h2, lex_nil]
  simp [ahead]
  omega

/-- WHICH BYTES ARE A WORD: just those whose tokens are one word, all of it, and the end -/
theorem word_iff (l : List UInt8) : IsWord l ↔ ∃ t u, lexL 0 l = .ok [t, u] ∧ t.kind = 1 ∧ t.text = l := by
  constructor
  · intro h; exact ⟨_, _, lex_isword h, rfl, rfl⟩
  · rintro ⟨t, u, h, hk, ht⟩
    have := word_text l.length l 0 _ (Nat.le_refl _) h t (by simp) hk
    rw [ht] at this
    exact this

end Go.Proofs.Ytpbbdnicafifpaa

/-! ## LexMore -/
namespace Go.Proofs.Ytpbbdnicafifpaa
set_option linter.unusedVariables false

/-- a byte as the int that its cell holds -/
def zi (x : UInt8) : Int := (x.toNat : Int)

theorem zi_bd (x : UInt8) : 0 ≤ zi x ∧ zi x ≤ 255 := by
  have := x.toNat_lt
  unfold zi; omega

def smallI (c : Int) : Bool := decide (97 ≤ c ∧ c ≤ 122)
def digitI (c : Int) : Bool := decide (48 ≤ c ∧ c ≤ 57)
def wordyI (c : Int) : Bool := smallI c || digitI c || decide (c = 46)

theorem small_zi (x : UInt8) : smallI (zi x) = isSmall x := by
  unfold smallI isSmall zi
  rw [Bool.eq_iff_iff]; simp; omega
theorem digit_zi (x : UInt8) : digitI (zi x) = isDigit x := by
  unfold digitI isDigit zi
  rw [Bool.eq_iff_iff]; simp; omega
theorem wordy_zi (x : UInt8) : wordyI (zi x) = isWordy x := by
  unfold wordyI isWordy
  rw [small_zi, digit_zi]
  congr 1
  unfold zi
  rw [Bool.eq_iff_iff]; simp; omega

/-- one token -/
def readL (p : Nat) (c : UInt8) (r : List UInt8) : Except Nat Tok :=
  if isSmall c then .ok ⟨1, c :: r.takeWhile isWordy, 0, p⟩
  else if isDigit c then
    if maxNum < valOf (c :: r.takeWhile isDigit) then .error 3 else .ok ⟨2, c :: r.takeWhile isDigit, valOf (c :: r.takeWhile isDigit), p⟩
  else if isSign c then .ok ⟨3, [c], 0, p⟩
  else if c.toNat = 45 ∧ (r.head?.map UInt8.toNat) = some 62 then .ok ⟨3, [45, 62], 0, p⟩
  else .error 6

theorem drop_take_len {α : Type} (P : α → Bool) (r : List α) : r.drop (r.takeWhile P).length = r.dropWhile P := by
  induction r with
  | nil => simp
  | cons x r ih => by_cases h : P x = true <;> simp [h, ih]

theorem lex_read (p : Nat) (c : UInt8) (r : List UInt8) (h1 : isBlank c = false) (h2 : ¬ c.toNat = 35) :
    lexL p (c :: r) = match readL p c r with | .error e => .error (e, p) | .ok t => ahead t (lexL (p + t.text.length) ((c :: r).drop t.text.length)) := by
  unfold readL
  by_cases h3 : isSmall c = true
  · rw [if_pos h3, lex_word p c r h3]
    simp only [List.length_cons, List.drop_succ_cons, drop_take_len]
    rw [show p + ((r.takeWhile isWordy).length + 1) = p + 1 + (r.takeWhile isWordy).length by omega]
  rw [if_neg h3]
  by_cases h4 : isDigit c = true
  · rw [if_pos h4, lex_num p c r h4]
    by_cases h5 : maxNum < valOf (c :: r.takeWhile isDigit)
    · rw [if_pos h5, if_pos h5]
    · rw [if_neg h5, if_neg h5]
      simp only [List.length_cons, List.drop_succ_cons, drop_take_len]
      rw [show p + ((r.takeWhile isDigit).length + 1) = p + 1 + (r.takeWhile isDigit).length by omega]
  rw [if_neg h4]
  by_cases h5 : isSign c = true
  · rw [if_pos h5, lex_sign p c r h5]
    rfl
  rw [if_neg h5]
  by_cases h6 : c.toNat = 45 ∧ (r.head?.map UInt8.toNat) = some 62
  · rw [if_pos h6]
    cases r with
    | nil => simp at h6
    | cons x r =>
      rw [lex_arrow p c r h6.1 x (by simpa using h6.2)]
      rfl
  · rw [if_neg h6]
    exact lex_bad p c r h1 h2 (by simpa using h3) (by simpa using h4) h6 (by simpa using h5)

/-- tokens ahead of what follows -/
def pre (ts : List Tok) (x : Except (Nat × Nat) (List Tok)) : Except (Nat × Nat) (List Tok) :=
  match x with
  | .ok us => .ok (ts ++ us)
  | .error e => .error e

theorem pre_nil (x : Except (Nat × Nat) (List Tok)) : pre [] x = x := by cases x <;> simp [pre]
theorem pre_ahead (ts : List Tok) (t : Tok) (x : Except (Nat × Nat) (List Tok)) : pre ts (ahead t x) = pre (ts ++ [t]) x := by cases x <;> simp [pre, ahead]

/-- a token's text is some bytes, no more than there are -/
theorem read_len {p : Nat} {c : UInt8} {r : List UInt8} {t : Tok} (h : readL p c r = .ok t) : 1 ≤ t.text.length ∧ t.text.length ≤ (c :: r).length ∧ t.at_ = p := by
  have tl : ∀ P : UInt8 → Bool, (r.takeWhile P).length ≤ r.length := fun P => (List.takeWhile_sublist (p := P) (l := r)).length_le
  have t1 := tl isWordy
  have t2 := tl isDigit
  unfold readL at h
  split at h
  · injection h with h; subst h; simp; omega
  split at h
  · split at h
    · cases h
    · injection h with h; subst h; simp; omega
  split at h
  · injection h with h; subst h; simp
  split at h
  · rename_i h6
    injection h with h; subst h
    cases r with
    | nil => simp at h6
    | cons x r => simp
  · cases h

/-- the first end of line -/
theorem index_take (l : List UInt8) : (Lib.indexByte l 10 = -1 ∧ l.dropWhile (fun x => x.toNat != 10) = [] ∧ (l.takeWhile (fun x => x.toNat != 10)).length = l.length) ∨
    ∃ k : Nat, Lib.indexByte l 10 = (k : Int) ∧ k < l.length ∧ l.dropWhile (fun x => x.toNat != 10) = l.drop k ∧ (l.takeWhile (fun x => x.toNat != 10)).length = k := by
  induction l with
  | nil => left; simp [Lib.indexByte]
  | cons x l ih =>
    by_cases hx : x = 10
    · subst hx
      right
      exact ⟨0, by simp [Lib.indexByte], by simp, by simp, by simp⟩
    · have hn : (x.toNat != 10) = true := by
        simp
        intro e
        exact hx (UInt8.toNat_inj.1 e)
      have hb : (x == 10) = false := by simpa using hx
      rcases ih with ⟨h1, h2, h3⟩ | ⟨k, h1, h2, h3, h4⟩
      · left
        refine ⟨?_, by simp [hn, h2], by simp [hn, h3]⟩
        unfold Lib.indexByte
        simp [hb, h1]
      · right
        refine ⟨k + 1, ?_, by simp; omega, by simp [hn, h3], by simp [hn, h4]⟩
        unfold Lib.indexByte
        have : ¬ ((k : Int) = -1) := by omega
        simp [hb, h1, this]

theorem lex_hash_none (p : Nat) (l : List UInt8) (c : UInt8) (r : List UInt8) (hl : l = c :: r) (hc : c.toNat = 35) (h : Lib.indexByte l 10 = -1) : lexL p l = lexL (p + l.length) [] := by
  subst hl
  rcases index_take (c :: r) with ⟨_, h2, h3⟩ | ⟨k, h1, _⟩
  · have hn : (c.toNat != 10) = true := by rw [hc]; rfl
    rw [lex_hash p c r hc]
    simp [hn] at h2 h3
    have e : r.dropWhile (fun x => x.toNat != 10) = [] := by
      rw [← drop_take_len, h3]; simp
    rw [h3, e]
    simp
    congr 1
    omega
  · rw [h] at h1; omega

theorem lex_hash_some (p : Nat) (l : List UInt8) (c : UInt8) (r : List UInt8) (hl : l = c :: r) (hc : c.toNat = 35) (k : Nat) (h : Lib.indexByte l 10 = (k : Int)) : lexL p l = lexL (p + k) (l.drop k) ∧ 1 ≤ k ∧ k < l.length := by
  subst hl
  rcases index_take (c :: r) with ⟨h1, _⟩ | ⟨j, h1, h2, h3, h4⟩
  · rw [h] at h1; omega
  · have e : j = k := by rw [h] at h1; omega
    subst e
    have hn : (c.toNat != 10) = true := by rw [hc]; rfl
    rw [lex_hash p c r hc]
    simp [hn] at h3 h4
    refine ⟨?_, by omega, h2⟩
    cases j with
    | zero => omega
    | succ j =>
      have h5 : (r.takeWhile (fun x => x.toNat != 10)).length = j := by omega
      rw [h5, ← drop_take_len, h5]
      simp
      congr 1
      omega

theorem placeL_flat_behind (a rest : List UInt8) (h : ∀ c ∈ rest, c.toNat ≠ 10) : placeL (a ++ rest) = ((placeL a).1, (placeL a).2 + rest.length) := by
  revert h
  refine snoc_ind (M := fun rest => (∀ c ∈ rest, c.toNat ≠ 10) → placeL (a ++ rest) = ((placeL a).1, (placeL a).2 + rest.length)) (fun _ => by simp) ?_ rest
  intro l c ih h
  rw [← List.append_assoc, placeL_snoc, ih (fun x hx => h x (by simp [hx])), if_neg (h c (by simp))]
  simp
  omega

/-- the line: how many ends of line there are -/
theorem placeL_line (l : List UInt8) : (placeL l).1 = Lib.countByte l 10 + 1 := by
  refine snoc_ind (M := fun l => (placeL l).1 = Lib.countByte l 10 + 1) rfl ?_ l
  intro l c ih
  rw [placeL_snoc]
  unfold Lib.countByte at *
  by_cases hc : c.toNat = 10
  · have e : c = 10 := UInt8.toNat_inj.1 hc
    subst e
    rw [if_pos hc]
    simp [ih]
  · have e : ¬ c = 10 := fun e => hc (by rw [e]; rfl)
    rw [if_neg hc]
    simp [ih, e]

/-- where the last end of line is -/
def LastNl (l : List UInt8) (k : Int) : Prop := (k = -1 ∧ ∀ c ∈ l, c.toNat ≠ 10) ∨ ∃ a rest, l = a ++ 10 :: rest ∧ k = (a.length : Int) ∧ ∀ c ∈ rest, c.toNat ≠ 10

theorem LastNl.col {l : List UInt8} {k : Int} (h : LastNl l k) : ((placeL l).2 : Int) = l.length - k := by
  rcases h with ⟨rfl, h⟩ | ⟨a, rest, rfl, rfl, h⟩
  · rw [placeL_flat l h]
    simp
  · have e : a ++ 10 :: rest = (a ++ [10]) ++ rest := by simp
    rw [e, placeL_flat_behind _ rest h, placeL_snoc]
    simp
    omega

theorem LastNl.bd {l : List UInt8} {k : Int} (h : LastNl l k) : -1 ≤ k ∧ k < l.length := by
  rcases h with ⟨rfl, h⟩ | ⟨a, rest, rfl, rfl, h⟩ <;> simp <;> omega

theorem placeL_bd (l : List UInt8) : 1 ≤ (placeL l).1 ∧ (placeL l).1 ≤ l.length + 1 ∧ 1 ≤ (placeL l).2 ∧ (placeL l).2 ≤ l.length + 1 := by
  refine snoc_ind (M := fun l => 1 ≤ (placeL l).1 ∧ (placeL l).1 ≤ l.length + 1 ∧ 1 ≤ (placeL l).2 ∧ (placeL l).2 ≤ l.length + 1) (by simp [placeL]) ?_ l
  intro l c ih
  rw [placeL_snoc]
  by_cases hc : c.toNat = 10
  · rw [if_pos hc]; simp; omega
  · rw [if_neg hc]; simp; omega

end Go.Proofs.Ytpbbdnicafifpaa

/-! ## Bytes -/
namespace Go.Proofs.Ytpbbdnicafifpaa
open Go.RowKit
set_option linter.unusedVariables false

theorem below_drew {B : Nat} {a w : World} (h : Below B a w) : Below B a w.drew := ⟨h.os, h.tape, h.output, h.size, h.block⟩
theorem below_drews {B : Nat} {a w : World} (h : Below B a w) (n : Nat) : Below B a (w.drewN n) := ⟨h.os, h.tape, h.output, h.size, h.block⟩

/-- bytes as a string -/
def bs (l : List UInt8) : ByteArray := ⟨l.toArray⟩

theorem bs_size (l : List UInt8) : (bs l).size = l.length := by simp [bs, ByteArray.size]
theorem bs_data (l : List UInt8) : (bs l).data.toList = l := by simp [bs]

/-- the slice with the address A, of n bytes, reads l -/
structure BytesAt (w : World) (A : Option Addr) (n : Nat) (l : List UInt8) : Prop where
  len : l.length = n
  cells : 0 < n → ∃ b off, A = some ⟨b, off, none⟩ ∧ b < w.heap.size ∧ ∀ i x, l[i]? = some x → w.cell? ⟨b, off + i, none⟩ = some (.int .u8 (zi x))

section
variable {w w' : World} {A : Option Addr} {n : Nat} {l : List UInt8}

theorem BytesAt.keep (h : BytesAt w A n l) (hs : w.heap.size ≤ w'.heap.size) (hk : ∀ k, k < w.heap.size → w'.heap[k]? = w.heap[k]?) : BytesAt w' A n l :=
  ⟨h.len, fun hn => by
    obtain ⟨b, off, e, hb, hc⟩ := h.cells hn
    exact ⟨b, off, e, by omega, fun i x hx => (World.cell?_of_block (w := w) (a := ⟨b, off + i, none⟩) (hk b hb)).trans (hc i x hx)⟩⟩
theorem BytesAt.below (h : BytesAt w A n l) (hb : Below w.heap.size w w') : BytesAt w' A n l := h.keep hb.size hb.block
theorem BytesAt.drewN (h : BytesAt w A n l) (k : Nat) : BytesAt (w.drewN k) A n l := ⟨h.len, h.cells⟩

/-- the byte at a place -/
theorem BytesAt.at_ (h : BytesAt w A n l) {k : Nat} (hk : k < n) : ∃ b off x, A = some ⟨b, off, none⟩ ∧ b < w.heap.size ∧ l[k]? = some x ∧ l.drop k = x :: l.drop (k + 1) ∧ w.cell? ⟨b, off + k, none⟩ = some (.int .u8 (zi x)) := by
  obtain ⟨b, off, e, hb, hc⟩ := h.cells (by omega)
  have hl : k < l.length := by rw [h.len]; exact hk
  exact ⟨b, off, l[k], e, hb, List.getElem?_eq_getElem hl, List.drop_eq_getElem_cons hl, hc k _ (List.getElem?_eq_getElem hl)⟩

/-- cut at its beginning -/
theorem BytesAt.drop {b off : Nat} (h : BytesAt w (some ⟨b, off, none⟩) n l) (k : Nat) (hk : k ≤ n) : BytesAt w (some ⟨b, off + k, none⟩) (n - k) (l.drop k) :=
  ⟨by rw [List.length_drop, h.len], fun hn => by
    obtain ⟨b', off', e, hb, hc⟩ := h.cells (by omega)
    injection e with e
    injection e with e1 e2
    subst e1; subst e2
    exact ⟨_, _, rfl, hb, fun i x hx => by
      rw [List.getElem?_drop] at hx
      have := hc (k + i) x hx
      rwa [← Nat.add_assoc] at this⟩⟩

/-- cut at its end -/
theorem BytesAt.take (h : BytesAt w A n l) (k : Nat) (hk : k ≤ n) : BytesAt w A k (l.take k) :=
  ⟨by rw [List.length_take, h.len]; omega, fun hn => by
    obtain ⟨b, off, e, hb, hc⟩ := h.cells (by omega)
    exact ⟨b, off, e, hb, fun i x hx => by
      rw [List.getElem?_take] at hx
      split at hx
      · exact hc i x hx
      · cases hx⟩⟩

/-- as the library's laws want it -/
theorem BytesAt.nums {b off : Nat} (h : BytesAt w (some ⟨b, off, none⟩) n l) : (l.map zi).length = n ∧ (∀ i, i < n → w.cell? ⟨b, off + i, none⟩ = some (.int .u8 ((l.map zi).getD i 0))) ∧ Lib.bytesOf (l.map zi) = l := by
  refine ⟨by simp [h.len], ?_, ?_⟩
  · intro i hi
    obtain ⟨b', off', e, hb, hc⟩ := h.cells (by omega)
    injection e with e
    injection e with e1 e2
    subst e1; subst e2
    have hl : i < l.length := by rw [h.len]; exact hi
    rw [hc i _ (List.getElem?_eq_getElem hl)]
    simp [List.getD, hl]
  · unfold Lib.bytesOf
    rw [List.map_map]
    conv => rhs; rw [← List.map_id l]
    apply List.map_congr_left
    intro x _
    simp [zi]

/-- 'string(p)' -/
theorem BytesAt.str (h : BytesAt w A n l) (c : Nat) : (convert 22 9 (.slice A n c)).run Try.prog w = .ok (.string (bs l)) w := by
  rcases Nat.eq_zero_or_pos n with h0 | h0
  · subst h0
    have hl : l = [] := List.eq_nil_of_length_eq_zero h.len
    subst hl
    cases A with
    | none => exact run_convert_bytes_nil w 22 5 Try.underlying22 Try.underlying5 0 c 9 Try.underlying9
    | some a => exact run_convert_bytes_back (P := Try.prog) w 22 9 5 a c [] Try.underlying22 Try.underlying5 Try.underlying9 (fun j hj => by simp at hj)
  · obtain ⟨b, off, rfl, hb, hc⟩ := h.cells h0
    have := run_convert_bytes_back (P := Try.prog) w 22 9 5 ⟨b, off, none⟩ c l Try.underlying22 Try.underlying5 Try.underlying9 (fun j hj => by
      have e : (⟨b, off, none⟩ : Addr).add j = ⟨b, off + j, none⟩ := by unfold Addr.add; split <;> simp_all
      rw [e, hc j _ (List.getElem?_eq_getElem hj)]
      rfl)
    rw [h.len] at this
    exact this

end

theorem cell_marked (w : World) (C : Array Value) (e : TypeId) (f : Nat × Nat) (i : Nat) : (w.alloc (.cells C e f)).cell? ⟨w.heap.size, i, none⟩ = C[i]? := by
  have hb := heap_alloc_new w (.cells C e f)
  exact cell_of_row _ _ i _ _ f hb

/-- '[]byte(s)' -/
theorem run_bytes_of (w : World) (s : ByteArray) : ∃ b c w', (convert 9 22 (.string s)).run Try.prog w = .ok (.slice (some ⟨b, 0, none⟩) s.size c) w' ∧ s.size ≤ c ∧ BytesAt w' (some ⟨b, 0, none⟩) s.size s.data.toList ∧ Below w.heap.size w w' := by
  refine ⟨_, _, _, run_bytes_of_string (P := Try.prog) w 9 22 5 s Try.underlying9 Try.underlying22 Try.underlying5, grownCap_ge _ _ _ _, ⟨by simp, fun hn => ⟨_, _, rfl, by simp [World.alloc], ?_⟩⟩, ?_⟩
  · intro i x hx
    rw [Nat.zero_add]
    refine (cell_marked w.drew _ _ _ i).trans ?_
    have hi : i < s.size := by have := (List.getElem?_eq_some_iff.1 hx).1; simpa using this
    have hx2 : s.data[i]? = some x := by simpa using hx
    unfold bytesRow
    rw [Array.getElem?_append_left (by simpa using hi), Array.getElem?_map, hx2]
    rfl
  · exact (below_drew (Below.refl _ w)).alloc (Nat.le_refl _) _

end Go.Proofs.Ytpbbdnicafifpaa

/-! ## LexSmall -/
namespace Go.Proofs.Ytpbbdnicafifpaa
open Go.RowKit
set_option linter.unusedVariables false

theorem ret_bool {a b : Bool} (h : a = b) : Ending.returned (.bool a) = .returned (.bool b) := by rw [h]

theorem letter_any (c : Int) (w : World) : Calls Try.prog 113 #[.int .i32 c] w fun e w' => e = .returned (.bool (smallI c)) ∧ w = w' := by
  have H : Hid (smallI c = decide (97 ≤ c ∧ c ≤ 122)) := Lib.hid rfl
  by_cases h1 : 97 ≤ c
  · by_cases h2 : c ≤ 122
    · go_enter Try.func113, Try.ntmps113
      go_wp2
      go_ret
      exact ⟨ret_bool (a := true) (by rw [H.out, decide_eq_true ⟨h1, h2⟩]), rfl⟩
    · have h2b : decide (c ≤ 122) = false := by simpa using h2
      go_enter Try.func113, Try.ntmps113
      go_wp2
      go_ret
      exact ⟨ret_bool (a := false) (by rw [H.out, decide_eq_false (fun h => by omega)]), rfl⟩
  · have h1b : decide (97 ≤ c) = false := by simpa using h1
    go_enter Try.func113, Try.ntmps113
    go_wp2
    go_ret
    exact ⟨ret_bool (a := false) (by rw [H.out, decide_eq_false (fun h => by omega)]), rfl⟩

theorem digit_any (c : Int) (w : World) : Calls Try.prog 118 #[.int .i32 c] w fun e w' => e = .returned (.bool (digitI c)) ∧ w = w' := by
  have H : Hid (digitI c = decide (48 ≤ c ∧ c ≤ 57)) := Lib.hid rfl
  by_cases h1 : 48 ≤ c
  · by_cases h2 : c ≤ 57
    · go_enter Try.func118, Try.ntmps118
      go_wp2
      go_ret
      exact ⟨ret_bool (a := true) (by rw [H.out, decide_eq_true ⟨h1, h2⟩]), rfl⟩
    · have h2b : decide (c ≤ 57) = false := by simpa using h2
      go_enter Try.func118, Try.ntmps118
      go_wp2
      go_ret
      exact ⟨ret_bool (a := false) (by rw [H.out, decide_eq_false (fun h => by omega)]), rfl⟩
  · have h1b : decide (48 ≤ c) = false := by simpa using h1
    go_enter Try.func118, Try.ntmps118
    go_wp2
    go_ret
    exact ⟨ret_bool (a := false) (by rw [H.out, decide_eq_false (fun h => by omega)]), rfl⟩

theorem inWord_any (c : Int) (w : World) : Calls Try.prog 112 #[.int .i32 c] w fun e w' => e = .returned (.bool (wordyI c)) ∧ w = w' := by
  have H : Hid (wordyI c = (smallI c || digitI c || decide (c = 46))) := Lib.hid rfl
  cases h1 : smallI c with
  | true =>
    go_enter Try.func112, Try.ntmps112
    go_wp2_with (first | (go_at_call 113; refine (letter_any _ _).mono ?_; rintro e w' ⟨rfl, rfl⟩) | (go_at_call 118; refine (digit_any _ _).mono ?_; rintro e w' ⟨rfl, rfl⟩))
    go_ret
    exact ⟨ret_bool (a := true) (by rw [H.out, h1]; rfl), rfl⟩
  | false =>
    cases h2 : digitI c with
    | true =>
      go_enter Try.func112, Try.ntmps112
      go_wp2_with (first | (go_at_call 113; refine (letter_any _ _).mono ?_; rintro e w' ⟨rfl, rfl⟩) | (go_at_call 118; refine (digit_any _ _).mono ?_; rintro e w' ⟨rfl, rfl⟩))
      go_ret
      exact ⟨ret_bool (a := true) (by rw [H.out, h1, h2]; rfl), rfl⟩
    | false =>
      by_cases h3 : c = 46
      · subst h3
        go_enter Try.func112, Try.ntmps112
        go_wp2_with (first | (go_at_call 113; refine (letter_any _ _).mono ?_; rintro e w' ⟨rfl, rfl⟩) | (go_at_call 118; refine (digit_any _ _).mono ?_; rintro e w' ⟨rfl, rfl⟩))
        go_ret
        exact ⟨ret_bool (a := true) (by rw [H.out, h1, h2]; rfl), rfl⟩
      · have h3b : (c == 46) = false := by simpa using h3
        go_enter Try.func112, Try.ntmps112
        go_wp2_with (first | (go_at_call 113; refine (letter_any _ _).mono ?_; rintro e w' ⟨rfl, rfl⟩) | (go_at_call 118; refine (digit_any _ _).mono ?_; rintro e w' ⟨rfl, rfl⟩))
        go_ret
        exact ⟨ret_bool (a := false) (by rw [H.out, h1, h2, decide_eq_false h3]; rfl), rfl⟩

end Go.Proofs.Ytpbbdnicafifpaa

/-! ## Append -/
namespace Go.Proofs.Ytpbbdnicafifpaa
open Go.RowKit
set_option linter.unusedVariables false

/-- append as one operation, by an equation on what it comes to -/
theorem wpList_append_eq {P : Program} {w w' : World} {ops : Array Oper} {rest : List Oper} {o : Oper} {a : Act} {Q : Exit → Act → World → Prop} (hgd : o.guard = none) (s x : Operand) (t : TypeId)
    (ho : o.op = .call { callee := .builtin .append, args := #[s, x], argTypes := #[t, t] }) {v y v' : Value} (hs : a.eval s = v) (hx : a.eval x = y)
    (hr : (Builtin.append_ #[t, t] o.type #[v, y]).run P w = .ok v' w') (h : wpList P ops Q rest (a.put o.dst v') w') : wpList P ops Q (o :: rest) a w := by
  refine wpList_plain hgd fun K hK => ?_
  unfold Oper.wp execOp
  simp only [ho, resolve, invoke, builtin, Sem.run_bind, Sem.run_pure, Result.andThen_ok, List.map_toArray, List.map_cons, List.map_nil, hs, hx, hr]
  exact hK _ _ h

/-- append as one step of a region that draws, by an equation on what it comes to -/
theorem step_append_eq {P : Program} {w w' : World} {ops : Array Oper} {o : Oper} {a : Act} {K : Act → World → Prop} {Q : Exit → Act → World → Prop} {E : Prop} (hgd : o.guard = none) (s x : Operand) (t : TypeId)
    (ho : o.op = .call { callee := .builtin .append, args := #[s, x], argTypes := #[t, t] }) {v y v' : Value} (hs : a.eval s = v) (hx : a.eval x = y)
    (hr : (Builtin.append_ #[t, t] o.type #[v, y]).run P w = .ok v' w') (h : K (a.put o.dst v') w') :
    if Region.wanted o (yielded ops a.tmps) = true then Oper.wp P o a w K Q else E := by
  have hw : Region.wanted o (yielded ops a.tmps) = true := by simp [Region.wanted, hgd]
  rw [if_pos hw]
  unfold Oper.wp execOp
  simp only [ho, resolve, invoke, builtin, Sem.run_bind, Sem.run_pure, Result.andThen_ok, List.map_toArray, List.map_cons, List.map_nil, hs, hx, hr]
  exact h

theorem ownS {S : Nat → Prop} {w w' : World} {B e n size : Nat} {v : Value} {xs : List Value} (h : w.ownsRow B e size v n xs) (hk : Kept S w w') (hn : ∀ r, v.ownBlock = some r → ¬ S r) : w'.ownsRow B e size v n xs := by
  refine ⟨h.1, ?_⟩
  rcases h.2 with h0 | ⟨r, cap, cur, rfl, hBr, hb, rest⟩
  · exact .inl h0
  · exact .inr ⟨r, cap, cur, rfl, hBr, (hk.block r (Array.getElem?_eq_some_iff.1 hb).1 (hn r (by simp [Value.ownBlock]))).trans hb, rest⟩

theorem own_form {w : World} {B e n size : Nat} {v : Value} {xs : List Value} (h : w.ownsRow B e size v n xs) : ∃ a cap, v = .slice a n cap := by
  rcases h.2 with ⟨rfl, h0⟩ | ⟨r, cap, _, rfl, _⟩
  · exact ⟨none, 0, by rw [h0]⟩
  · exact ⟨_, cap, rfl⟩

end Go.Proofs.Ytpbbdnicafifpaa
