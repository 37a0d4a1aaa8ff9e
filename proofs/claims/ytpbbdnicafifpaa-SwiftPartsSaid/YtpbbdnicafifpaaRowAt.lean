/-
  A slice that can be read: its cells, wherever it lies. Nets that can be read.
  Conditions: none beyond each theorem's own.
-/
import Derived.Test.YtpbbdnicafifpaaNetMath
import Derived.Test.YtpbbdnicafifpaaBase4
namespace Go.Proofs.Ytpbbdnicafifpaa
open Go.RowKit
set_option linter.unusedVariables false

/-- v is a slice of n elements of so many cells each: xs -/
def RowAt (size : Nat) (w : World) (v : Value) (n : Nat) (xs : List Value) : Prop :=
  xs.length = n * size ∧ ∃ a cap, v = .slice a n cap ∧ n ≤ cap ∧ cap ≤ maxLen ∧ (n = 0 ∨ ∃ b off, a = some ⟨b, off, none⟩ ∧ b < w.heap.size ∧ ∀ j x, xs[j]? = some x → w.cell? ⟨b, off + j, none⟩ = some x)

section
variable {size n : Nat} {w w' : World} {v : Value} {xs : List Value}

/-- the blocks of which a slice is -/
def Value.inBlock (v : Value) (k : Nat) : Prop := ∃ b off n cap, v = .slice (some ⟨b, off, none⟩) n cap ∧ b = k

theorem RowAt.kept {S : Nat → Prop} (h : RowAt size w v n xs) (hk : Kept S w w') (hS : ∀ k, Value.inBlock v k → ¬ S k) : RowAt size w' v n xs := by
  obtain ⟨hl, a, cap, rfl, h1, h2, h3⟩ := h
  refine ⟨hl, a, cap, rfl, h1, h2, ?_⟩
  rcases h3 with h0 | ⟨b, off, rfl, hb, hc⟩
  · exact .inl h0
  · exact .inr ⟨b, off, rfl, Nat.lt_of_lt_of_le hb hk.size, fun j x hj => hk.cell hb (hS b ⟨b, off, _, _, rfl, rfl⟩) (hc j x hj)⟩

theorem RowAt.below (h : RowAt size w v n xs) (hb : Below w.heap.size w w') : RowAt size w' v n xs :=
  h.kept (S := fun _ => False) (Kept.of_below hb) (fun _ _ e => e)

theorem RowAt.below2 {B : World} (h : RowAt size B v n xs) (hb : Below B.heap.size B w') : RowAt size w' v n xs := h.below hb

theorem RowAt.alloc (h : RowAt size w v n xs) (o : Obj) : RowAt size (w.alloc o) v n xs := h.below ((Below.refl _ _).alloc (Nat.le_refl _) o)

theorem RowAt.len (h : RowAt size w v n xs) : ∃ a cap, v = .slice a n cap := by
  obtain ⟨_, a, cap, e, _⟩ := h; exact ⟨a, cap, e⟩

theorem RowAt.max (h : RowAt size w v n xs) : n ≤ 9223372036854775807 := by
  obtain ⟨_, a, cap, e, h1, h2, _⟩ := h; unfold maxLen at h2; omega

theorem RowAt.nil (size : Nat) (w : World) : RowAt size w (.slice none 0 0) 0 [] :=
  ⟨by simp, none, 0, rfl, Nat.le_refl _, by unfold maxLen; omega, .inl rfl⟩

/-- its first m elements -/
theorem RowAt.take {a : Option Addr} {cap : Nat} (h : RowAt size w (.slice a n cap) n xs) (m : Nat) (hm : m ≤ n) : RowAt size w (.slice a m cap) m (xs.take (m * size)) := by
  obtain ⟨hl, a', cap', e, h1, h2, h3⟩ := h
  injection e with e1 _ e3
  subst e1; subst e3
  refine ⟨?_, a, cap, rfl, by omega, h2, ?_⟩
  · rw [List.length_take, hl]
    have := Nat.mul_le_mul_right size hm
    omega
  · rcases h3 with h0 | ⟨b, off, rfl, hb, hc⟩
    · exact .inl (by omega)
    · refine .inr ⟨b, off, rfl, hb, fun j x hj => hc j x ?_⟩
      rw [List.getElem?_take] at hj
      split at hj
      · exact hj
      · cases hj

/-- a row of the call's own can be read -/
theorem RowAt.of_own {B e : Nat} (h : w.ownsRow B e size v n xs) : RowAt size w v n xs := by
  have hl := h.1
  rcases h.2 with ⟨h1, h0⟩ | ⟨r, cap, cur, h1, hB, hb, hc1, hc2, _⟩
  · subst h0
    rw [h1]
    exact ⟨by simpa using hl, none, 0, rfl, Nat.le_refl _, by unfold maxLen; omega, .inl rfl⟩
  · have h' := h
    rw [h1] at h' ⊢
    refine ⟨hl, _, cap, rfl, hc1, hc2, .inr ⟨r, 0, rfl, (Array.getElem?_eq_some_iff.1 hb).1, fun j x hj => ?_⟩⟩
    rw [Nat.zero_add, h'.cellAt j (by have := lt_at hj; rw [hl] at this; exact this), hj]

/-- a block of the call's own, whole -/
theorem RowAt.of_block {b : Nat} {cs : Array Value} {t : TypeId} (hb : w.heap[b]? = some (.cells cs t)) (cap : Nat) (hl : cs.size = n * size) (h1 : n ≤ cap) (h2 : cap ≤ maxLen) : RowAt size w (.slice (some ⟨b, 0, none⟩) n cap) n cs.toList := by
  refine ⟨by simpa using hl, _, cap, rfl, h1, h2, .inr ⟨b, 0, rfl, (Array.getElem?_eq_some_iff.1 hb).1, fun j x hj => ?_⟩⟩
  rw [Nat.zero_add, cell_of_row w b j _ _ (0, 0) hb, ← hj]
  simp

end

/-- elements of so many cells, one behind the other -/
theorem flat_at {α : Type} {f : α → List Value} {k : Nat} (hf : ∀ a, (f a).length = k) (l : List α) : ∀ (i j : Nat) (a : α), l[i]? = some a → j < k → (l.flatMap f)[i * k + j]? = (f a)[j]? := by
  induction l with
  | nil => intro i j a h; simp at h
  | cons p l ih =>
    intro i j a hi hj
    rw [List.flatMap_cons]
    cases i with
    | zero =>
      simp at hi
      subst hi
      rw [Nat.zero_mul, Nat.zero_add, List.getElem?_append_left (by rw [hf]; exact hj)]
    | succ i =>
      have e : (i + 1) * k + j - k = i * k + j := by rw [Nat.succ_mul]; omega
      have e2 : k ≤ (i + 1) * k + j := by rw [Nat.succ_mul]; omega
      rw [List.getElem?_append_right (by rw [hf]; exact e2), hf, e]
      exact ih i j a (by simpa using hi) hj
theorem flat_len {α : Type} {f : α → List Value} {k : Nat} (hf : ∀ a, (f a).length = k) (l : List α) : (l.flatMap f).length = l.length * k := by
  induction l with
  | nil => simp
  | cons p l ih => rw [List.flatMap_cons, List.length_append, ih, hf, List.length_cons, Nat.succ_mul]; omega

/-- an arc's cells, a place's, a text's, a transition's -/
def arcL (a : Int × Int) : List Value := [.int .i64 a.1, .int .i64 a.2]
def plL (p : Pl) : List Value := [.string p.name, .int .i64 p.tok]
def strL (s : ByteArray) : List Value := [.string s]
def trL (x : Tr × Value × Value × Value) : List Value := [.string x.1.name, .int .i64 x.1.delay, .int .i64 x.1.prio, x.2.1, x.2.2.1, x.2.2.2]
theorem arcL_len (a : Int × Int) : (arcL a).length = 2 := rfl
theorem plL_len (p : Pl) : (plL p).length = 2 := rfl
theorem strL_len (s : ByteArray) : (strL s).length = 1 := rfl
theorem trL_len (x : Tr × Value × Value × Value) : (trL x).length = 6 := rfl

def ArcsAt (w : World) (v : Value) (l : List (Int × Int)) : Prop := RowAt 2 w v l.length (l.flatMap arcL)
def PlsAt (w : World) (v : Value) (l : List Pl) : Prop := RowAt 2 w v l.length (l.flatMap plL)
def StrsAt (w : World) (v : Value) (l : List ByteArray) : Prop := RowAt 1 w v l.length (l.flatMap strL)
/-- transitions, with the slices of each -/
def TrsAt (w : World) (v : Value) (l : List (Tr × Value × Value × Value)) : Prop :=
  RowAt 6 w v l.length (l.flatMap trL) ∧ ∀ x ∈ l, ArcsAt w x.2.1 x.1.inn ∧ ArcsAt w x.2.2.1 x.1.nt ∧ ArcsAt w x.2.2.2 x.1.out
/-- a net -/
def NetAt (w : World) (vp vt : Value) (n : Nt) : Prop := PlsAt w vp n.places ∧ ∃ l, l.map (·.1) = n.trans ∧ TrsAt w vt l

section
variable {w w' : World} {v vp vt : Value}

theorem ArcsAt.below {l : List (Int × Int)} (h : ArcsAt w v l) (hb : Below w.heap.size w w') : ArcsAt w' v l := RowAt.below h hb
theorem PlsAt.below {l : List Pl} (h : PlsAt w v l) (hb : Below w.heap.size w w') : PlsAt w' v l := RowAt.below h hb
theorem StrsAt.below {l : List ByteArray} (h : StrsAt w v l) (hb : Below w.heap.size w w') : StrsAt w' v l := RowAt.below h hb
theorem TrsAt.below {l : List (Tr × Value × Value × Value)} (h : TrsAt w v l) (hb : Below w.heap.size w w') : TrsAt w' v l :=
  ⟨RowAt.below h.1 hb, fun x hx => ⟨(h.2 x hx).1.below hb, (h.2 x hx).2.1.below hb, (h.2 x hx).2.2.below hb⟩⟩
theorem NetAt.below {n : Nt} (h : NetAt w vp vt n) (hb : Below w.heap.size w w') : NetAt w' vp vt n := by
  obtain ⟨h1, l, h2, h3⟩ := h
  exact ⟨h1.below hb, l, h2, h3.below hb⟩

/-- an element of a slice -/
theorem RowAt.elem {α : Type} {f : α → List Value} {k : Nat} (hf : ∀ a, (f a).length = k) {l : List α} {a : Option Addr} {n cap : Nat} (h : RowAt k w (.slice a n cap) l.length (l.flatMap f)) {i : Nat} {x : α} (hi : l[i]? = some x) :
    ∃ b off, a = some ⟨b, off, none⟩ ∧ b < w.heap.size ∧ ∀ j y, (f x)[j]? = some y → w.cell? ⟨b, off + i * k + j, none⟩ = some y := by
  obtain ⟨_, a', cap', e, _, _, h3⟩ := h
  injection e with e1 _ _
  subst e1
  have hlt := lt_at hi
  rcases h3 with h0 | ⟨b, off, rfl, hb, hc⟩
  · omega
  · refine ⟨b, off, rfl, hb, fun j y hj => ?_⟩
    have hjk : j < k := by rw [← hf x]; exact lt_at hj
    rw [Nat.add_assoc]
    exact hc _ _ ((flat_at hf l i j x hi hjk).trans hj)

theorem ArcsAt.at_ {l : List (Int × Int)} {a : Option Addr} {n cap : Nat} (h : ArcsAt w (.slice a n cap) l) {i : Nat} {x y : Int} (hi : l[i]? = some (x, y)) :
    ∃ b off, a = some ⟨b, off, none⟩ ∧ b < w.heap.size ∧ w.cell? ⟨b, off + i * 2, none⟩ = some (.int .i64 x) ∧ w.cell? ⟨b, off + i * 2 + 1, none⟩ = some (.int .i64 y) := by
  obtain ⟨b, off, e, hb, hc⟩ := RowAt.elem arcL_len h hi
  exact ⟨b, off, e, hb, hc 0 _ rfl, hc 1 _ rfl⟩
theorem PlsAt.at_ {l : List Pl} {a : Option Addr} {n cap : Nat} (h : PlsAt w (.slice a n cap) l) {i : Nat} {x : Pl} (hi : l[i]? = some x) :
    ∃ b off, a = some ⟨b, off, none⟩ ∧ b < w.heap.size ∧ w.cell? ⟨b, off + i * 2, none⟩ = some (.string x.name) ∧ w.cell? ⟨b, off + i * 2 + 1, none⟩ = some (.int .i64 x.tok) := by
  obtain ⟨b, off, e, hb, hc⟩ := RowAt.elem plL_len h hi
  exact ⟨b, off, e, hb, hc 0 _ rfl, hc 1 _ rfl⟩
theorem StrsAt.at_ {l : List ByteArray} {a : Option Addr} {n cap : Nat} (h : StrsAt w (.slice a n cap) l) {i : Nat} {x : ByteArray} (hi : l[i]? = some x) :
    ∃ b off, a = some ⟨b, off, none⟩ ∧ b < w.heap.size ∧ w.cell? ⟨b, off + i, none⟩ = some (.string x) := by
  obtain ⟨b, off, e, hb, hc⟩ := RowAt.elem strL_len h hi
  exact ⟨b, off, e, hb, by have := hc 0 _ rfl; simpa using this⟩
theorem TrsAt.at_ {l : List (Tr × Value × Value × Value)} {a : Option Addr} {n cap : Nat} (h : TrsAt w (.slice a n cap) l) {i : Nat} {t : Tr} (hi : (l.map (·.1))[i]? = some t) :
    ∃ b off a1 c1 a2 c2 a3 c3, a = some ⟨b, off, none⟩ ∧ b < w.heap.size ∧ w.cell? ⟨b, off + i * 6, none⟩ = some (.string t.name) ∧ w.cell? ⟨b, off + i * 6 + 1, none⟩ = some (.int .i64 t.delay) ∧ w.cell? ⟨b, off + i * 6 + 2, none⟩ = some (.int .i64 t.prio) ∧
      w.cell? ⟨b, off + i * 6 + 3, none⟩ = some (.slice a1 t.inn.length c1) ∧ w.cell? ⟨b, off + i * 6 + 4, none⟩ = some (.slice a2 t.nt.length c2) ∧ w.cell? ⟨b, off + i * 6 + 5, none⟩ = some (.slice a3 t.out.length c3) ∧
      ArcsAt w (.slice a1 t.inn.length c1) t.inn ∧ ArcsAt w (.slice a2 t.nt.length c2) t.nt ∧ ArcsAt w (.slice a3 t.out.length c3) t.out := by
  rw [List.getElem?_map] at hi
  obtain ⟨x, hx, rfl⟩ := Option.map_eq_some_iff.1 hi
  obtain ⟨b, off, e, hb, hc⟩ := RowAt.elem trL_len h.1 hx
  obtain ⟨t, v1, v2, v3⟩ := x
  obtain ⟨g1, g2, g3⟩ := h.2 _ (List.mem_of_getElem? hx)
  obtain ⟨a1, c1, e1⟩ := RowAt.len g1
  obtain ⟨a2, c2, e2⟩ := RowAt.len g2
  obtain ⟨a3, c3, e3⟩ := RowAt.len g3
  simp only at g1 g2 g3 e1 e2 e3
  subst e1 e2 e3
  exact ⟨b, off, a1, c1, a2, c2, a3, c3, e, hb, hc 0 _ rfl, hc 1 _ rfl, hc 2 _ rfl, hc 3 _ rfl, hc 4 _ rfl, hc 5 _ rfl, g1, g2, g3⟩

end

end Go.Proofs.Ytpbbdnicafifpaa
