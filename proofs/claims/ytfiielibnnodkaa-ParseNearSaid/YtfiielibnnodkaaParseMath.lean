/-
  A net's text, token by token, as plain functions of lists: what the parser comes to.
  Conditions: none beyond each theorem's own.
-/
import Derived.Test.YtfiielibnnodkaaBase4
import Derived.Test.YtfiielibnnodkaaNetMath
namespace Go.Proofs.Ytfiielibnnodkaa
set_option linter.unusedVariables false

def wPlace : List UInt8 := [112, 108, 97, 99, 101]
def wTrans : List UInt8 := [116, 114, 97, 110, 115]

/-- the token at hand -/
def hd (ts : List Tok) : Tok := ts.headD ⟨0, [], 0, 0⟩

/-- tokens that end with the end, and hold it nowhere else -/
def Good : List Tok → Prop
  | [] => False
  | [e] => e.kind = 0 ∧ e.text = []
  | t :: u :: ts => t.text ≠ [] ∧ t.kind ≠ 0 ∧ t.text.length ≤ 1000000 ∧ Good (u :: ts)

theorem Good.ne {ts : List Tok} (h : Good ts) : ts ≠ [] := by rintro rfl; exact h
theorem Good.cons {ts : List Tok} (h : Good ts) : ∃ r, ts = hd ts :: r ∧ r = ts.tail := by
  cases ts with
  | nil => exact absurd rfl h.ne
  | cons t r => exact ⟨r, rfl, rfl⟩
theorem Good.small {ts : List Tok} (h : Good ts) : (hd ts).text.length ≤ 1000000 := by
  match ts, h with
  | [e], h => show e.text.length ≤ _; rw [h.2]; simp
  | t :: u :: ts, h => exact h.2.2.1
theorem Good.tailT {ts : List Tok} (h : Good ts) (ht : (hd ts).text ≠ []) : Good ts.tail := by
  match ts, h with
  | [e], h => exact absurd h.2 ht
  | t :: u :: ts, h => exact h.2.2.2
theorem Good.tailK {ts : List Tok} (h : Good ts) (ht : (hd ts).kind ≠ 0) : Good ts.tail := by
  match ts, h with
  | [e], h => exact absurd h.1 ht
  | t :: u :: ts, h => exact h.2.2.2
theorem Good.len {ts : List Tok} (h : Good ts) : 0 < ts.length := List.length_pos_iff.2 h.ne
theorem Good.tailS {ts : List Tok} (h : Good ts) {s : List UInt8} (hs : s ≠ []) (ht : (hd ts).text = s) : Good ts.tail := h.tailT (by rw [ht]; exact hs)
theorem tail_len {ts : List Tok} (h : Good ts) : ts.tail.length + 1 = ts.length := by
  have := h.len
  rw [List.length_tail]; omega

/-- the names of the places, in their order -/
def numsG : List (List UInt8) → List Tok → List (List UInt8)
  | ns, [] => ns
  | ns, t :: ts => numsG (if t.text = wPlace ∧ (hd ts).kind = 1 ∧ (hd ts).text ∉ ns then ns ++ [(hd ts).text] else ns) ts

/-- a number behind a sign: it, the error, what follows -/
def numG (s : List UInt8) (least : Int) (ts : List Tok) : Int × Int × List Tok :=
  if (hd ts).text = s then
    if (hd ts.tail).kind ≠ 2 then (0, 6, ts.tail)
    else if ((hd ts.tail).num : Int) < least ∨ 1000000 < (hd ts.tail).num then (0, 3, ts.tail)
    else ((hd ts.tail).num, 0, ts.tail.tail)
  else (least, 0, ts)

def newB (n : Nt) (s : List UInt8) : Bool := nameB s && !(n.places.any fun p => sEq p.name ⟨s.toArray⟩) && !(n.trans.any fun t => sEq t.name ⟨s.toArray⟩)

/-- a new name -/
def nameG (n : Nt) (ts : List Tok) : List UInt8 × Int × List Tok :=
  if (hd ts).kind ≠ 1 then ([], 6, ts)
  else if newB n (hd ts).text = false then ([], 7, ts)
  else ((hd ts).text, 0, ts.tail)

/-- an arc more -/
def arcG (ns : List (List UInt8)) (l : List (Int × Int)) (ts : List Tok) : List (Int × Int) × Int × List Tok :=
  if (hd ts).kind ≠ 1 then ([], 6, ts)
  else if (hd ts).text ∉ ns ∨ hasP l (ns.idxOf (hd ts).text : Nat) = true then ([], 7, ts)
  else if l.length = 8 then ([], 5, ts)
  else if (numG [42] 1 ts.tail).2.1 ≠ 0 then ([], (numG [42] 1 ts.tail).2.1, (numG [42] 1 ts.tail).2.2)
  else (l ++ [(((ns.idxOf (hd ts).text : Nat) : Int), (numG [42] 1 ts.tail).1)], 0, (numG [42] 1 ts.tail).2.2)

/-- lists under way -/
structure LS where
  ts : List Tok
  inn : List (Int × Int)
  nt : List (Int × Int)
  out : List (Int × Int)

def lookG (ns : List (List UInt8)) (x : LS) : LS × Int :=
  if (hd x.ts).text = [126] then (⟨(arcG ns x.nt x.ts.tail).2.2, x.inn, (arcG ns x.nt x.ts.tail).1, x.out⟩, (arcG ns x.nt x.ts.tail).2.1)
  else (⟨(arcG ns x.inn x.ts).2.2, (arcG ns x.inn x.ts).1, x.nt, x.out⟩, (arcG ns x.inn x.ts).2.1)

def outG (ns : List (List UInt8)) (x : LS) : LS × Int := (⟨(arcG ns x.out x.ts).2.2, x.inn, x.nt, (arcG ns x.out x.ts).1⟩, (arcG ns x.out x.ts).2.1)

/-- elements with commas between -/
def listG (step : LS → LS × Int) : Nat → LS → LS × Int
  | 0, x => (x, 6)
  | f + 1, x => if (step x).2 ≠ 0 then step x else if (hd (step x).1.ts).text = [44] then listG step f { (step x).1 with ts := (step x).1.ts.tail } else ((step x).1, 0)

def listTop (step : LS → LS × Int) (stop : List UInt8) (x : LS) : LS × Int := if (hd x.ts).text = stop then (x, 0) else listG step x.ts.length x

def arcsG (ns : List (List UInt8)) (x : LS) : LS × Int :=
  if (hd x.ts).text = [58] then
    if (listTop (lookG ns) [45, 62] { x with ts := x.ts.tail }).2 ≠ 0 then listTop (lookG ns) [45, 62] { x with ts := x.ts.tail }
    else if (hd (listTop (lookG ns) [45, 62] { x with ts := x.ts.tail }).1.ts).text = [45, 62] then
      listTop (outG ns) [59] { (listTop (lookG ns) [45, 62] { x with ts := x.ts.tail }).1 with ts := (listTop (lookG ns) [45, 62] { x with ts := x.ts.tail }).1.ts.tail }
    else ((listTop (lookG ns) [45, 62] { x with ts := x.ts.tail }).1, 6)
  else (x, 6)

def placeG (n : Nt) (ts : List Tok) : Nt × Int × List Tok :=
  if n.places.length = 32 then (n, 5, ts)
  else if (nameG n ts).2.1 ≠ 0 then (n, (nameG n ts).2.1, (nameG n ts).2.2)
  else if (numG [61] 0 (nameG n ts).2.2).2.1 ≠ 0 then (n, (numG [61] 0 (nameG n ts).2.2).2.1, (numG [61] 0 (nameG n ts).2.2).2.2)
  else ({ n with places := n.places ++ [⟨⟨(nameG n ts).1.toArray⟩, (numG [61] 0 (nameG n ts).2.2).1⟩] }, 0, (numG [61] 0 (nameG n ts).2.2).2.2)

/-- a transition's head: its name, delay, priority -/
def headG (n : Nt) (ts : List Tok) : (List UInt8 × Int × Int) × Int × List Tok :=
  if (nameG n ts).2.1 ≠ 0 then (([], 0, 0), (nameG n ts).2.1, (nameG n ts).2.2)
  else if (numG [64] 0 (nameG n ts).2.2).2.1 ≠ 0 then (([], 0, 0), (numG [64] 0 (nameG n ts).2.2).2.1, (numG [64] 0 (nameG n ts).2.2).2.2)
  else if (numG [33] 0 (numG [64] 0 (nameG n ts).2.2).2.2).2.1 ≠ 0 then (([], 0, 0), (numG [33] 0 (numG [64] 0 (nameG n ts).2.2).2.2).2.1, (numG [33] 0 (numG [64] 0 (nameG n ts).2.2).2.2).2.2)
  else (((nameG n ts).1, (numG [64] 0 (nameG n ts).2.2).1, (numG [33] 0 (numG [64] 0 (nameG n ts).2.2).2.2).1), 0, (numG [33] 0 (numG [64] 0 (nameG n ts).2.2).2.2).2.2)

def transG (ns : List (List UInt8)) (n : Nt) (ts : List Tok) : Nt × Int × List Tok :=
  if n.trans.length = 32 then (n, 5, ts)
  else if (headG n ts).2.1 ≠ 0 then (n, (headG n ts).2.1, (headG n ts).2.2)
  else if (arcsG ns ⟨(headG n ts).2.2, [], [], []⟩).2 ≠ 0 then (n, (arcsG ns ⟨(headG n ts).2.2, [], [], []⟩).2, (arcsG ns ⟨(headG n ts).2.2, [], [], []⟩).1.ts)
  else ({ n with trans := n.trans ++ [⟨⟨(headG n ts).1.1.toArray⟩, (headG n ts).1.2.1, (headG n ts).1.2.2, (arcsG ns ⟨(headG n ts).2.2, [], [], []⟩).1.inn, (arcsG ns ⟨(headG n ts).2.2, [], [], []⟩).1.nt, (arcsG ns ⟨(headG n ts).2.2, [], [], []⟩).1.out⟩] }, 0, (arcsG ns ⟨(headG n ts).2.2, [], [], []⟩).1.ts)

def itemG (ns : List (List UInt8)) (n : Nt) (ts : List Tok) : Nt × Int × List Tok :=
  if (hd ts).text = wPlace then placeG n ts.tail else if (hd ts).text = wTrans then transG ns n ts.tail else (n, 6, ts)

def itemsG (ns : List (List UInt8)) : Nat → Nt → List Tok → Nt × Int × List Tok
  | 0, n, ts => (n, 6, ts)
  | f + 1, n, ts =>
    if (hd ts).kind = 0 then (n, 0, ts)
    else if (itemG ns n ts).2.1 ≠ 0 then itemG ns n ts
    else if (hd (itemG ns n ts).2.2).text = [59] then itemsG ns f (itemG ns n ts).1 (itemG ns n ts).2.2.tail
    else ((itemG ns n ts).1, 6, (itemG ns n ts).2.2)

/-- what the text comes to: the error and its place, or the net -/
def parseT (ts : List Tok) : Except (Int × Nat) Nt :=
  if (itemsG (numsG [] ts) ts.length ⟨[], []⟩ ts).2.1 ≠ 0 then .error ((itemsG (numsG [] ts) ts.length ⟨[], []⟩ ts).2.1, (hd (itemsG (numsG [] ts) ts.length ⟨[], []⟩ ts).2.2).at_)
  else .ok (itemsG (numsG [] ts) ts.length ⟨[], []⟩ ts).1

/-! ### what is left is good, and no longer -/
def Rest (a b : List Tok) : Prop := Good b ∧ b.length ≤ a.length ∧ b <:+ a
theorem Rest.refl {a : List Tok} (h : Good a) : Rest a a := ⟨h, Nat.le_refl _, List.suffix_refl _⟩
theorem Rest.tailT {a b : List Tok} (h : Rest a b) (ht : (hd b).text ≠ []) : Rest a b.tail := ⟨h.1.tailT ht, by have := tail_len h.1; have := h.2.1; omega, (List.tail_suffix b).trans h.2.2⟩
theorem Rest.tailK {a b : List Tok} (h : Rest a b) (ht : (hd b).kind ≠ 0) : Rest a b.tail := ⟨h.1.tailK ht, by have := tail_len h.1; have := h.2.1; omega, (List.tail_suffix b).trans h.2.2⟩
theorem Rest.trans {a b c : List Tok} (h : Rest a b) (k : Rest b c) : Rest a c := ⟨k.1, Nat.le_trans k.2.1 h.2.1, k.2.2.trans h.2.2⟩
theorem Rest.mem {a b : List Tok} (h : Rest a b) : hd b ∈ a := by
  obtain ⟨r, e, _⟩ := h.1.cons
  exact h.2.2.subset (by rw [e]; exact List.mem_cons_self)

theorem numG_rest {s : List UInt8} (hs : s ≠ []) {least : Int} {ts : List Tok} (h : Good ts) : Rest ts (numG s least ts).2.2 := by
  unfold numG
  have h0 := Rest.refl h
  split
  · rename_i e
    have h1 := h0.tailT (by rw [e]; exact hs)
    split
    · exact h1
    · split
      · exact h1
      · rename_i k _
        exact h1.tailK (by intro e; rw [e] at k; exact k (by decide))
  · exact h0

theorem nameG_rest {n : Nt} {ts : List Tok} (h : Good ts) : Rest ts (nameG n ts).2.2 := by
  unfold nameG
  have h0 := Rest.refl h
  split
  · exact h0
  · split
    · exact h0
    · rename_i k _
      exact h0.tailK (by intro e; rw [e] at k; exact k (by decide))

theorem arcG_rest {ns : List (List UInt8)} {l : List (Int × Int)} {ts : List Tok} (h : Good ts) : Rest ts (arcG ns l ts).2.2 := by
  unfold arcG
  have h0 := Rest.refl h
  split
  · exact h0
  · rename_i k
    have h1 := h0.tailK (by intro e; rw [e] at k; exact k (by decide))
    have h2 := h1.trans (numG_rest (s := [42]) (by simp) (least := 1) h1.1)
    split
    · exact h0
    · split
      · exact h0
      · split
        · exact h2
        · exact h2

theorem lookG_rest {ns : List (List UInt8)} {x : LS} (h : Good x.ts) : Rest x.ts (lookG ns x).1.ts := by
  unfold lookG
  have h0 := Rest.refl h
  split
  · rename_i e
    have h1 := h0.tailT (by rw [e]; simp)
    exact h1.trans (arcG_rest h1.1)
  · exact h0.trans (arcG_rest h)
theorem outG_rest {ns : List (List UInt8)} {x : LS} (h : Good x.ts) : Rest x.ts (outG ns x).1.ts := arcG_rest h

def Shrinks (step : LS → LS × Int) : Prop := ∀ x, Good x.ts → Rest x.ts (step x).1.ts

theorem listG_rest {step : LS → LS × Int} (hs : Shrinks step) (f : Nat) (x : LS) (h : Good x.ts) : Rest x.ts (listG step f x).1.ts := by
  induction f generalizing x with
  | zero => exact Rest.refl h
  | succ f ih =>
    have h1 := hs x h
    unfold listG
    split
    · exact h1
    · split
      · rename_i e
        have h2 := h1.tailT (by rw [e]; simp)
        exact h2.trans (ih { (step x).1 with ts := (step x).1.ts.tail } h2.1)
      · exact h1
theorem listTop_rest {step : LS → LS × Int} (hs : Shrinks step) (stop : List UInt8) (x : LS) (h : Good x.ts) : Rest x.ts (listTop step stop x).1.ts := by
  unfold listTop
  split
  · exact Rest.refl h
  · exact listG_rest hs _ x h

theorem arcsG_rest {ns : List (List UInt8)} {x : LS} (h : Good x.ts) : Rest x.ts (arcsG ns x).1.ts := by
  unfold arcsG
  have h0 := Rest.refl h
  split
  · rename_i e
    have h1 := h0.tailT (by rw [e]; simp)
    have h2 := h1.trans (listTop_rest (fun x h => lookG_rest (ns := ns) h) [45, 62] { x with ts := x.ts.tail } h1.1)
    split
    · exact h2
    · split
      · rename_i e2
        have h3 := h2.tailT (by rw [e2]; simp)
        exact h3.trans (listTop_rest (fun x h => outG_rest (ns := ns) h) [59] _ h3.1)
      · exact h2
  · exact h0

theorem placeG_rest {n : Nt} {ts : List Tok} (h : Good ts) : Rest ts (placeG n ts).2.2 := by
  unfold placeG
  have h1 := nameG_rest (n := n) h
  have h2 := h1.trans (numG_rest (s := [61]) (by simp) (least := 0) h1.1)
  split
  · exact Rest.refl h
  · split
    · exact h1
    · split
      · exact h2
      · exact h2

theorem headG_rest {n : Nt} {ts : List Tok} (h : Good ts) : Rest ts (headG n ts).2.2 := by
  unfold headG
  have h1 := nameG_rest (n := n) h
  have h2 := h1.trans (numG_rest (s := [64]) (by simp) (least := 0) h1.1)
  have h3 := h2.trans (numG_rest (s := [33]) (by simp) (least := 0) h2.1)
  split
  · exact h1
  · split
    · exact h2
    · split
      · exact h3
      · exact h3

theorem transG_rest {ns : List (List UInt8)} {n : Nt} {ts : List Tok} (h : Good ts) : Rest ts (transG ns n ts).2.2 := by
  unfold transG
  have h1 := headG_rest (n := n) h
  have h2 := h1.trans (arcsG_rest (ns := ns) (x := ⟨(headG n ts).2.2, [], [], []⟩) h1.1)
  split
  · exact Rest.refl h
  · split
    · exact h1
    · split
      · exact h2
      · exact h2

theorem itemG_rest {ns : List (List UInt8)} {n : Nt} {ts : List Tok} (h : Good ts) : Rest ts (itemG ns n ts).2.2 := by
  unfold itemG
  have h0 := Rest.refl h
  split
  · rename_i e
    have h1 := h0.tailT (by rw [e]; simp [wPlace])
    exact h1.trans (placeG_rest h1.1)
  · split
    · rename_i e
      have h1 := h0.tailT (by rw [e]; simp [wTrans])
      exact h1.trans (transG_rest h1.1)
    · exact h0

theorem itemsG_rest {ns : List (List UInt8)} (f : Nat) : ∀ {n : Nt} {ts : List Tok}, Good ts → Rest ts (itemsG ns f n ts).2.2 := by
  induction f with
  | zero => intro n ts h; exact Rest.refl h
  | succ f ih =>
    intro n ts h
    have h1 := itemG_rest (ns := ns) (n := n) h
    unfold itemsG
    split
    · exact Rest.refl h
    · split
      · exact h1
      · split
        · rename_i e
          have h2 := h1.tailT (by rw [e]; simp)
          exact h2.trans (ih h2.1)
        · exact h1
end Go.Proofs.Ytfiielibnnodkaa
