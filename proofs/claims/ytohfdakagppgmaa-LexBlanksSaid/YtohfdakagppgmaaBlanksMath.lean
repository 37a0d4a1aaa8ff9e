/-
  Plain facts for the law LexBlanks: texts that are put together word by word, with blanks, and dressed.
  Conditions: none beyond each theorem's own.
-/
import Derived.Test.YtohfdakagppgmaaLexAwake
import Derived.Test.YtohfdakagppgmaaBytesIn
namespace Go.Proofs.Ytohfdakagppgmaa
open Go.RowKit
set_option linter.unusedVariables false

theorem bs_append (a b : List UInt8) : bs a ++ bs b = bs (a ++ b) := by
  apply ByteArray.ext
  rw [ByteArray.data_append]
  simp [bs]

/-- a word, and what it is dressed with -/
abbrev Item := (Nat × List UInt8 × Nat) × List UInt8

/-- what the first i bytes of l have come to -/
structure InB (l : List UInt8) (i : Nat) (items : List Item) (sa sb : ByteArray) : Prop where
  len : items.length = i
  ok : ∀ q ∈ items, q.1 ∈ words12 ∧ q.2 ∈ dresses
  wd : ∀ j x, l[j]? = some x → j < i → ∃ q, items[j]? = some q ∧ words12[x.toNat % 12]? = some q.1
  ea : sa = bs (items.flatMap (fun q => q.1.2.1 ++ [32]))
  eb : sb = bs (items.flatMap (fun q => q.1.2.1 ++ q.2))
  za : sa.size ≤ 14 * i
  zb : sb.size ≤ 14 * i

theorem InB.start (l : List UInt8) : InB l 0 [] { data := #[] } { data := #[] } :=
  ⟨rfl, (fun q h => by cases h), (fun j x _ h => by omega), rfl, rfl, Nat.le_refl _, Nat.le_refl _⟩

theorem word_size {t : Nat × List UInt8 × Nat} (h : t ∈ words12) : t.2.1.length ≤ 5 := by
  have : ∀ t ∈ words12, t.2.1.length ≤ 5 := by decide
  exact this t h

theorem dress_size {d : List UInt8} (h : d ∈ dresses) : d.length ≤ 9 := by
  have : ∀ d ∈ dresses, d.length ≤ 9 := by decide
  exact this d h

theorem InB.next {l : List UInt8} {i : Nat} {items : List Item} {sa sb s1 sa' sb1 sb' : ByteArray} {x : UInt8} {t : Nat × List UInt8 × Nat} {d : List UInt8} (h : InB l i items sa sb) (hx : l[i]? = some x) (ht : words12[x.toNat % 12]? = some t) (hd : d ∈ dresses)
    (h1 : bs t.2.1 ++ { data := #[32] } = s1) (h2 : sa ++ s1 = sa') (h3 : sb ++ bs t.2.1 = sb1) (h4 : sb1 ++ bs d = sb') : InB l (i + 1) (items ++ [(t, d)]) sa' sb' := by
  have htm : t ∈ words12 := List.mem_of_getElem? ht
  have e1 : s1 = bs (t.2.1 ++ [32]) := by rw [← h1]; exact bs_append _ [32]
  have ea' : sa' = bs ((items ++ [(t, d)]).flatMap (fun q => q.1.2.1 ++ [32])) := by
    rw [← h2, h.ea, e1, bs_append, List.flatMap_append]
    simp
  have eb' : sb' = bs ((items ++ [(t, d)]).flatMap (fun q => q.1.2.1 ++ q.2)) := by
    rw [← h4, ← h3, h.eb, bs_append, bs_append, List.flatMap_append]
    simp
  have w1 := word_size htm
  have w2 := dress_size hd
  refine ⟨by simp [h.len], ?_, ?_, ea', eb', ?_, ?_⟩
  · intro q hq
    rcases List.mem_append.1 hq with hq | hq
    · exact h.ok q hq
    · simp at hq
      subst hq
      exact ⟨htm, hd⟩
  · intro j y hy hj
    by_cases e : j = i
    · subst e
      rw [hx] at hy
      injection hy with hy
      subst hy
      exact ⟨(t, d), by rw [List.getElem?_append_right (by rw [h.len]; omega), h.len]; simp, ht⟩
    · obtain ⟨q, h5, h6⟩ := h.wd j y hy (by omega)
      exact ⟨q, by rw [List.getElem?_append_left (by rw [h.len]; omega)]; exact h5, h6⟩
  · have hz := h.za
    rw [h.ea, bs_size] at hz
    rw [ea', bs_size, List.flatMap_append, List.length_append]
    have e9 : ([(t, d)].flatMap (fun q : Item => q.1.2.1 ++ [32])).length = t.2.1.length + 1 := by simp
    omega
  · have hz := h.zb
    rw [h.eb, bs_size] at hz
    rw [eb', bs_size, List.flatMap_append, List.length_append]
    have e9 : ([(t, d)].flatMap (fun q : Item => q.1.2.1 ++ q.2)).length = t.2.1.length + d.length := by simp
    omega

theorem InB.lexa {l : List UInt8} {i : Nat} {items : List Item} {sa sb : ByteArray} (h : InB l i items sa sb) : ∃ ts, lexL 0 sa.data.toList = .ok ts ∧ ts.map strip = items.map (fun q => q.1) ++ [(0, [], 0)] := by
  obtain ⟨ts, h1, h2⟩ := lex_dressed (items.map (fun q => (q.1, [32]))) 0 (by
    intro q hq
    obtain ⟨q', hq', rfl⟩ := List.mem_map.1 hq
    exact ⟨(h.ok q' hq').1, show [32] ∈ dresses by decide⟩)
  refine ⟨ts, ?_, ?_⟩
  · rw [h.ea, bs_data, ← h1, List.flatMap_map]
  · rw [h2, List.map_map]
    rfl

theorem InB.lexb {l : List UInt8} {i : Nat} {items : List Item} {sa sb : ByteArray} (h : InB l i items sa sb) : ∃ ts, lexL 0 sb.data.toList = .ok ts ∧ ts.map strip = items.map (fun q => q.1) ++ [(0, [], 0)] := by
  obtain ⟨ts, h1, h2⟩ := lex_dressed items 0 h.ok
  exact ⟨ts, by rw [h.eb, bs_data]; exact h1, h2⟩

theorem strip_at {ts us : List Tok} {k : List (Nat × List UInt8 × Nat)} (h1 : ts.map strip = k) (h2 : us.map strip = k) (j : Nat) (t : Tok) (ht : ts[j]? = some t) : ∃ u, us[j]? = some u ∧ u.kind = t.kind ∧ u.text = t.text ∧ u.num = t.num := by
  have e1 : k[j]? = some (strip t) := by rw [← h1, List.getElem?_map, ht]; rfl
  rw [← h2, List.getElem?_map] at e1
  cases hu : us[j]? with
  | none => rw [hu] at e1; cases e1
  | some u =>
    rw [hu] at e1
    simp [strip] at e1
    exact ⟨u, rfl, e1.1, e1.2.1, e1.2.2⟩

theorem InB.text {l : List UInt8} {n : Nat} {items : List Item} {sa sb : ByteArray} (h : InB l n items sa sb) {ts : List Tok} (hts : ts.map strip = items.map (fun q => q.1) ++ [(0, [], 0)]) (j : Nat) (x : UInt8) (hx : l[j]? = some x) (hj : j < n) (t : Tok) (ht : ts[j]? = some t) :
    ∃ q, words12[x.toNat % 12]? = some q ∧ t.text = q.2.1 := by
  obtain ⟨q, h1, h2⟩ := h.wd j x hx hj
  refine ⟨q.1, h2, ?_⟩
  have e : (ts.map strip)[j]? = some (strip t) := by rw [List.getElem?_map, ht]; rfl
  rw [hts, List.getElem?_append_left (by rw [List.length_map, h.len]; exact hj), List.getElem?_map, h1] at e
  simp [strip] at e
  rw [e]

/-- the cells of the words -/
def wordCells : Array Value := #[.string { data := #[112, 108, 97, 99, 101] }, .string { data := #[112, 46, 49] }, .string { data := #[49, 55] }, .string { data := #[59] }, .string { data := #[58] }, .string { data := #[44] }, .string { data := #[42] }, .string { data := #[33] }, .string { data := #[126] }, .string { data := #[64] }, .string { data := #[61] }, .string { data := #[45, 62] }]

theorem wordCells_at (q : Nat) (t : Nat × List UInt8 × Nat) (h : words12[q]? = some t) : wordCells[q]? = some (.string (bs t.2.1)) := by
  have e : wordCells = (words12.map (fun t => Value.string (bs t.2.1))).toArray := rfl
  rw [e, List.getElem?_toArray, List.getElem?_map, h]
  rfl

/-- the cells of what they are dressed with -/
def dressCells : Array Value := #[.string { data := #[32] }, .string { data := #[10] }, .string { data := #[35, 32, 97, 32, 45, 62, 32, 98, 10] }, .string { data := #[9, 32, 13, 10] }, .string { data := #[35, 10, 35, 10] }]

theorem dressCells_at (q : Nat) (d : List UInt8) (h : dresses[q]? = some d) : dressCells[q]? = some (.string (bs d)) := by
  have e : dressCells = (dresses.map (fun t => Value.string (bs t))).toArray := rfl
  rw [e, List.getElem?_toArray, List.getElem?_map, h]
  rfl

end Go.Proofs.Ytohfdakagppgmaa
