/-
  A net's text, as plain functions of lists; numbers in their digits. The tokens of a net's text. A net that may be, told as a text and read again, is that net: plain facts. A net that may be, told as a text and read again, is that net: the whole. A net that may be, told as a text and read again, is that net. Two bytes as a text; texts behind each other. The document's own Digits: a number's digits. The document's own arc: an arc as a text. The document's own Text: a net that may be as a text.
  Conditions: none beyond each theorem's own.
-/
import Derived.Test.YtfiielibnnodkaaPCheck
import Derived.Test.YtfiielibnnodkaaMakeB
import Derived.Test.YtfiielibnnodkaaNew
import Derived.Test.YtfiielibnnodkaaNetE
import Derived.Deep.RegionLaw
import Derived.Deep.CutRange
/-! ## Texts -/
/-! ## TextDef -/
namespace Go.Proofs.Ytfiielibnnodkaa
set_option linter.unusedVariables false

/-- a number's digits -/
def digF : Nat → Nat → List UInt8
  | 0, n => [UInt8.ofNat (48 + n % 10)]
  | f + 1, n => if n < 10 then [UInt8.ofNat (48 + n)] else digF f (n / 10) ++ [UInt8.ofNat (48 + n % 10)]
def digs (n : Nat) : List UInt8 := digF 7 n
theorem digit_at (d : Nat) (hd : d ≤ 9) : (UInt8.ofNat (48 + d)).toNat = 48 + d ∧ isDigit (UInt8.ofNat (48 + d)) = true := by
  have h : (UInt8.ofNat (48 + d)).toNat = 48 + d := by simp; omega
  refine ⟨h, ?_⟩
  unfold isDigit
  rw [h]
  exact decide_eq_true (by omega)
theorem digF_all (f : Nat) : ∀ n, n < 10 ^ (f + 1) → (∀ x ∈ digF f n, isDigit x = true) ∧ valOf (digF f n) = n ∧ (digF f n).length ≤ f + 1 ∧ digF f n ≠ [] := by
  induction f with
  | zero =>
    intro n hn
    have e : n % 10 = n := by omega
    have hd := digit_at n (by omega)
    refine ⟨fun x hx => ?_, ?_, by simp [digF], by simp [digF]⟩
    · simp only [digF, List.mem_singleton] at hx; rw [hx, e]; exact hd.2
    · simp only [digF, e, valOf, List.foldl, hd.1]; omega
  | succ f ih =>
    intro n hn
    unfold digF
    split
    · rename_i h
      have hd := digit_at n (by omega)
      refine ⟨fun x hx => ?_, ?_, by simp, by simp⟩
      · rw [List.mem_singleton] at hx; rw [hx]; exact hd.2
      · simp only [valOf, List.foldl, hd.1]; omega
    · have hd := digit_at (n % 10) (by omega)
      obtain ⟨h1, h2, h3, h4⟩ := ih (n / 10) (by rw [Nat.pow_succ] at hn; omega)
      refine ⟨fun x hx => ?_, ?_, by simp; omega, by simp⟩
      · rw [List.mem_append, List.mem_singleton] at hx
        rcases hx with hx | rfl
        · exact h1 x hx
        · exact hd.2
      · rw [valOf_snoc, h2, hd.1]; omega
theorem digF_more (f : Nat) : ∀ n g, n < 10 ^ (f + 1) → f ≤ g → digF g n = digF f n := by
  induction f with
  | zero =>
    intro n g hn hg
    have e : n % 10 = n := by omega
    cases g with
    | zero => rfl
    | succ g => unfold digF; rw [if_pos (by omega), e]
  | succ f ih =>
    intro n g hn hg
    cases g with
    | zero => omega
    | succ g =>
      unfold digF
      split
      · rfl
      · rw [ih (n / 10) g (by rw [Nat.pow_succ] at hn; omega) (by omega)]
theorem digs_step {n : Nat} (hn : n < 10000000) (h : ¬ n < 10) : digs n = digs (n / 10) ++ [UInt8.ofNat (48 + n % 10)] := by
  have e : digs n = digF 6 (n / 10) ++ [UInt8.ofNat (48 + n % 10)] := by unfold digs; conv => lhs; unfold digF; rw [if_neg h]
  rw [e, show digs (n / 10) = digF 6 (n / 10) from digF_more 6 (n / 10) 7 (by omega) (by omega)]
theorem digs_one {n : Nat} (h : n < 10) : digs n = [UInt8.ofNat (48 + n)] := by
  unfold digs digF; rw [if_pos h]
theorem digs_all {n : Nat} (hn : n ≤ 1000000) : (∀ x ∈ digs n, isDigit x = true) ∧ valOf (digs n) = n ∧ (digs n).length ≤ 8 ∧ digs n ≠ [] := digF_all 7 n (by omega)

/-- a text's bytes -/
def nb (s : ByteArray) : List UInt8 := s.data.toList
theorem bs_nb (s : ByteArray) : bs (nb s) = s := by apply ByteArray.ext; unfold bs nb; rw [Array.toArray_toList]
theorem nb_bs (l : List UInt8) : nb (bs l) = l := rfl
theorem nb_len (s : ByteArray) : (nb s).length = s.size := rfl

/-- an arc -/
def plName (ps : List Pl) (i : Int) : List UInt8 := nb (ps.getD i.toNat ⟨⟨#[]⟩, 0⟩).name
def optT (s : List UInt8) (d v : Int) : List UInt8 := if v = d then [] else s ++ digs v.toNat
def arcT (ps : List Pl) (a : Int × Int) : List UInt8 := plName ps a.1 ++ optT [42] 1 a.2
/-- arcs: what stands ahead of the first one, what stands at each -/
def arcsT (ps : List Pl) (mark : List UInt8) : List UInt8 → List (Int × Int) → List UInt8
  | _, [] => []
  | sep, a :: l => sep ++ mark ++ arcT ps a ++ arcsT ps mark [44, 32] l
def sepT (sep : List UInt8) (l : List (Int × Int)) : List UInt8 := if l = [] then sep else [44, 32]
def placeT (p : Pl) : List UInt8 := [112, 108, 97, 99, 101, 32] ++ nb p.name ++ optT [32, 61, 32] 0 p.tok ++ [59, 10]
def headT (t : Tr) : List UInt8 := [116, 114, 97, 110, 115, 32] ++ nb t.name ++ optT [32, 64] 0 t.delay ++ optT [32, 33] 0 t.prio ++ [58]
def transT (ps : List Pl) (t : Tr) : List UInt8 :=
  headT t ++ arcsT ps [] [32] t.inn ++ arcsT ps [126] (sepT [32] t.inn) t.nt ++ [32, 45, 62] ++ arcsT ps [] [32] t.out ++ [59, 10]
def textN (n : Nt) : List UInt8 := n.places.flatMap placeT ++ n.trans.flatMap (transT n.places)

/-! ### arc by arc, place by place -/
theorem sepT_snoc (sep : List UInt8) (l : List (Int × Int)) (a : Int × Int) : sepT sep (l ++ [a]) = [44, 32] := by unfold sepT; rw [if_neg (by simp)]
theorem arcsT_snoc (ps : List Pl) (mark : List UInt8) (l : List (Int × Int)) (a : Int × Int) : ∀ sep, arcsT ps mark sep (l ++ [a]) = arcsT ps mark sep l ++ (sepT sep l ++ mark ++ arcT ps a) := by
  induction l with
  | nil => intro sep; simp [arcsT, sepT]
  | cons b l ih =>
    intro sep
    rw [List.cons_append, arcsT, ih, arcsT, show sepT sep (b :: l) = [44, 32] from if_neg (by simp)]
    have : sepT [44, 32] l = [44, 32] := by unfold sepT; split <;> rfl
    rw [this]
    simp
theorem flat_snoc {α : Type} (f : α → List UInt8) {l : List α} {k : Nat} {a : α} (h : l[k]? = some a) : (l.take (k + 1)).flatMap f = (l.take k).flatMap f ++ f a := by rw [take_at h]; simp

/-! ### how long -/
theorem optT_len {s : List UInt8} {d v : Int} (h : v ≤ 1000000) : (optT s d v).length ≤ s.length + 8 := by
  unfold optT
  split
  · simp
  · have := (digs_all (n := v.toNat) (by omega)).2.2.1
    rw [List.length_append]; omega
/-- names are short -/
def Short (ps : List Pl) : Prop := ∀ p ∈ ps, p.name.size ≤ 12
theorem plName_len {ps : List Pl} (h : Short ps) (i : Int) : (plName ps i).length ≤ 12 := by
  unfold plName
  rw [nb_len, List.getD_eq_getElem?_getD]
  cases e : ps[i.toNat]? with
  | none => simp; decide
  | some p => simpa using h p (List.mem_of_getElem? e)
theorem arcT_len {ps : List Pl} (h : Short ps) {a : Int × Int} (ha : a.2 ≤ 1000000) : (arcT ps a).length ≤ 21 := by
  unfold arcT
  have := plName_len h a.1
  have := optT_len (s := [42]) (d := 1) ha
  rw [List.length_append]; simp at this; omega
theorem arcsT_len {ps : List Pl} (h : Short ps) {mark : List UInt8} (hm : mark.length ≤ 1) (l : List (Int × Int)) (hl : ∀ a ∈ l, a.2 ≤ 1000000) : ∀ sep : List UInt8, sep.length ≤ 2 → (arcsT ps mark sep l).length ≤ l.length * 24 := by
  induction l with
  | nil => intro sep hs; simp [arcsT]
  | cons a l ih =>
    intro sep hs
    have h1 := arcT_len h (hl a (by simp))
    have h2 := ih (fun x hx => hl x (by simp [hx])) [44, 32] (by simp)
    rw [arcsT]
    simp only [List.length_append, List.length_cons]
    omega
theorem placeT_len {p : Pl} (h : p.name.size ≤ 12) (ht : p.tok ≤ 1000000) : (placeT p).length ≤ 40 := by
  have := optT_len (s := [32, 61, 32]) (d := 0) ht
  unfold placeT
  simp only [List.length_append, List.length_cons, List.length_nil, nb_len] at *
  omega
theorem headT_len {t : Tr} (h : t.name.size ≤ 12) (h1 : t.delay ≤ 1000000) (h2 : t.prio ≤ 1000000) : (headT t).length ≤ 40 := by
  have := optT_len (s := [32, 64]) (d := 0) h1
  have := optT_len (s := [32, 33]) (d := 0) h2
  unfold headT
  simp only [List.length_append, List.length_cons, List.length_nil, nb_len] at *
  omega
end Go.Proofs.Ytfiielibnnodkaa

/-! ## TextLex -/
namespace Go.Proofs.Ytfiielibnnodkaa
set_option linter.unusedVariables false

abbrev TK := Nat × List UInt8 × Nat
/-- the bytes r come to these tokens, wherever they stand -/
def To (r : List UInt8) (ks : List TK) : Prop := ∀ p, ∃ ts, lexL p r = .ok ts ∧ ts.map strip = ks
/-- what ends a word and a number -/
def Ends (r : List UInt8) : Prop := ∃ c l, r = c :: l ∧ isWordy c = false

theorem wordy_digit {c : UInt8} (h : isWordy c = false) : isDigit c = false := by
  cases e : isDigit c with
  | false => rfl
  | true => simp [isWordy, e] at h

section
variable {r : List UInt8} {ks : List TK}
theorem To.nil : To [] [(0, [], 0)] := fun p => ⟨_, lex_nil p, rfl⟩
theorem To.blank (h : To r ks) {c : UInt8} (hc : isBlank c = true) : To (c :: r) ks := fun p => by
  obtain ⟨ts, h1, h2⟩ := h (p + 1)
  exact ⟨ts, by rw [lex_blank p c r hc]; exact h1, h2⟩
theorem To.sp (h : To r ks) : To (32 :: r) ks := h.blank (by decide)
theorem To.sign (h : To r ks) (c : UInt8) (hc : isSign c = true) : To (c :: r) ((3, [c], 0) :: ks) := fun p => by
  obtain ⟨ts, h1, h2⟩ := h (p + 1)
  exact ⟨_, by rw [lex_sign p c r hc, h1]; rfl, by simp [h2, strip]⟩
theorem To.arrow (h : To r ks) : To (45 :: 62 :: r) ((3, [45, 62], 0) :: ks) := fun p => by
  obtain ⟨ts, h1, h2⟩ := h (p + 2)
  exact ⟨_, by rw [lex_arrow p 45 r (by decide) 62 (by decide), h1]; rfl, by simp [h2, strip]⟩
theorem To.word (h : To r ks) (he : Ends r) {w : List UInt8} (hw : wordB w = true) : To (w ++ r) ((1, w, 0) :: ks) := fun p => by
  obtain ⟨c, l, rfl, hc⟩ := he
  cases w with
  | nil => cases hw
  | cons x w =>
    simp only [wordB, Bool.and_eq_true, List.all_eq_true] at hw
    obtain ⟨ts, h1, h2⟩ := h (p + 1 + w.length)
    refine ⟨⟨1, x :: w, 0, p⟩ :: ts, ?_, by simp [h2, strip]⟩
    rw [List.cons_append, lex_word p x _ hw.1, take_stop w c l hw.2 hc, drop_stop w c l hw.2 hc, h1]
    rfl
theorem To.num (h : To r ks) (he : Ends r) {n : Nat} (hn : n ≤ 1000000) : To (digs n ++ r) ((2, digs n, n) :: ks) := fun p => by
  obtain ⟨c, l, rfl, hc⟩ := he
  obtain ⟨h1, h2, h3, h4⟩ := digs_all hn
  have hc' := wordy_digit hc
  generalize digs n = w at *
  cases w with
  | nil => exact absurd rfl h4
  | cons x w =>
    obtain ⟨ts, e1, e2⟩ := h (p + 1 + w.length)
    have hw : ∀ y ∈ w, isDigit y = true := fun y hy => h1 y (by simp [hy])
    refine ⟨⟨2, x :: w, n, p⟩ :: ts, ?_, by simp [e2, strip]⟩
    rw [List.cons_append, lex_num p x _ (h1 x (by simp)), take_stop w c l hw hc', drop_stop w c l hw hc', h2, if_neg (by simp [maxNum]; omega), e1]
    rfl
theorem Ends.mk {c : UInt8} {l : List UInt8} (h : isWordy c = false) : Ends (c :: l) := ⟨c, l, rfl, h⟩

/-- a number that may be there -/
def optK (s : List TK) (d v : Int) : List TK := if v = d then [] else s ++ [(2, digs v.toNat, v.toNat)]
theorem Ends.opt (he : Ends r) {s : List UInt8} {d v : Int} (hs : ∃ c l, s = c :: l ∧ isWordy c = false) : Ends (optT s d v ++ r) := by
  unfold optT
  split
  · simpa using he
  · obtain ⟨c, l, rfl, h⟩ := hs
    exact ⟨c, _, rfl, h⟩
theorem To.optA (h : To r ks) (he : Ends r) {v : Int} (h1 : v ≤ 1000000) : To (optT [32, 61, 32] 0 v ++ r) (optK [(3, [61], 0)] 0 v ++ ks) := by
  unfold optT optK
  split
  · simpa using h
  · have := ((((h.num he (n := v.toNat) (by omega)).sp).sign 61 (by decide)).sp)
    simpa using this
theorem To.optB (h : To r ks) (he : Ends r) {v : Int} (h1 : v ≤ 1000000) (c : UInt8) (hc : isSign c = true) : To (optT [32, c] 0 v ++ r) (optK [(3, [c], 0)] 0 v ++ ks) := by
  unfold optT optK
  split
  · simpa using h
  · have := (((h.num he (n := v.toNat) (by omega)).sign c hc).sp)
    simpa using this
theorem To.optC (h : To r ks) (he : Ends r) {v : Int} (h1 : v ≤ 1000000) : To (optT [42] 1 v ++ r) (optK [(3, [42], 0)] 1 v ++ ks) := by
  unfold optT optK
  split
  · simpa using h
  · have := ((h.num he (n := v.toNat) (by omega)).sign 42 (by decide))
    simpa using this

def arcK (ps : List Pl) (a : Int × Int) : List TK := (1, plName ps a.1, 0) :: optK [(3, [42], 0)] 1 a.2
theorem To.arc (h : To r ks) (he : Ends r) {ps : List Pl} {a : Int × Int} (h1 : a.2 ≤ 1000000) (hw : wordB (plName ps a.1) = true) : To (arcT ps a ++ r) (arcK ps a ++ ks) := by
  unfold arcT arcK
  have := (h.optC he h1).word (he.opt ⟨42, [], rfl, by decide⟩) hw
  simpa using this

/-- arcs with what stands ahead: a comma, or nothing -/
def markK (mark : List UInt8) : List TK := if mark = [] then [] else [(3, mark, 0)]
def arcsK (ps : List Pl) (mark : List UInt8) : Bool → List (Int × Int) → List TK
  | _, [] => []
  | b, a :: l => (if b then [(3, [44], 0)] else []) ++ markK mark ++ arcK ps a ++ arcsK ps mark true l
def sepOf (b : Bool) : List UInt8 := if b then [44, 32] else [32]
theorem Ends.arcs (he : Ends r) {ps : List Pl} {mark : List UInt8} {b : Bool} {l : List (Int × Int)} : Ends (arcsT ps mark (sepOf b) l ++ r) := by
  cases l with
  | nil => simpa [arcsT] using he
  | cons a l => cases b <;> exact ⟨_, _, rfl, by decide⟩
theorem To.arcs (h : To r ks) (he : Ends r) {ps : List Pl} {mark : List UInt8} (hm : mark = [] ∨ mark = [126]) : ∀ (l : List (Int × Int)) (b : Bool), (∀ a ∈ l, a.2 ≤ 1000000 ∧ wordB (plName ps a.1) = true) →
    To (arcsT ps mark (sepOf b) l ++ r) (arcsK ps mark b l ++ ks)
  | [], b, _ => by simpa [arcsT, arcsK] using h
  | a :: l, b, hl => by
    have h1 := To.arcs h he hm l true (fun x hx => hl x (by simp [hx]))
    obtain ⟨ha, hw⟩ := hl a (by simp)
    have h2 := h1.arc (he.arcs (b := true)) ha hw
    have h3 : To (mark ++ (arcT ps a ++ (arcsT ps mark (sepOf true) l ++ r))) (markK mark ++ (arcK ps a ++ (arcsK ps mark true l ++ ks))) := by
      rcases hm with rfl | rfl
      · simpa [markK] using h2
      · have := h2.sign 126 (by decide)
        simpa [markK] using this
    rw [arcsT, arcsK]
    cases b with
    | false =>
      have := h3.sp
      simpa [sepOf] using this
    | true =>
      have := (h3.sp).sign 44 (by decide)
      simpa [sepOf] using this

def placeK (p : Pl) : List TK := (1, wPlace, 0) :: (1, nb p.name, 0) :: (optK [(3, [61], 0)] 0 p.tok ++ [(3, [59], 0)])
theorem To.place (h : To r ks) {p : Pl} (hw : wordB (nb p.name) = true) (ht : p.tok ≤ 1000000) : To (placeT p ++ r) (placeK p ++ ks) := by
  have h1 := (h.blank (c := 10) (by decide)).sign 59 (by decide)
  have h2 := h1.optA (.mk (by decide)) ht
  have h3 := h2.word (Ends.opt (Ends.mk (by decide)) ⟨32, [61, 32], rfl, by decide⟩) hw
  have h4 := (h3.sp).word (w := wPlace) (Ends.mk (by decide)) (by decide)
  simpa [placeT, placeK, wPlace] using h4
def transK (ps : List Pl) (t : Tr) : List TK :=
  (1, wTrans, 0) :: (1, nb t.name, 0) :: (optK [(3, [64], 0)] 0 t.delay ++ (optK [(3, [33], 0)] 0 t.prio ++ ((3, [58], 0) :: (arcsK ps [] false t.inn ++ (arcsK ps [126] (decide (t.inn ≠ [])) t.nt ++ ((3, [45, 62], 0) :: (arcsK ps [] false t.out ++ [(3, [59], 0)])))))))
/-- arcs that can be told -/
def ArcsTo (ps : List Pl) (l : List (Int × Int)) : Prop := ∀ a ∈ l, a.2 ≤ 1000000 ∧ wordB (plName ps a.1) = true
theorem sepT_of (l : List (Int × Int)) : sepT [32] l = sepOf (decide (l ≠ [])) := by
  unfold sepT sepOf
  by_cases h : l = [] <;> simp [h]
theorem To.trans (h : To r ks) {ps : List Pl} {t : Tr} (hw : wordB (nb t.name) = true) (h1 : t.delay ≤ 1000000) (h2 : t.prio ≤ 1000000) (ha : ArcsTo ps t.inn) (hb : ArcsTo ps t.nt) (hc : ArcsTo ps t.out) : To (transT ps t ++ r) (transK ps t ++ ks) := by
  have g1 := (h.blank (c := 10) (by decide)).sign 59 (by decide)
  have g2 := g1.arcs (.mk (by decide)) (.inl rfl) t.out false hc
  have g3 := (g2.arrow).sp
  have g4 := g3.arcs (.mk (by decide)) (mark := [126]) (.inr rfl) t.nt (decide (t.inn ≠ [])) hb
  have g5 := g4.arcs (Ends.arcs (Ends.mk (by decide))) (mark := []) (.inl rfl) t.inn false ha
  have g6 := g5.sign 58 (by decide)
  have g7 := g6.optB (.mk (by decide)) h2 33 (by decide)
  have g8 := g7.optB (Ends.opt (Ends.mk (by decide)) ⟨32, [33], rfl, by decide⟩) h1 64 (by decide)
  have g9 := g8.word (Ends.opt (Ends.opt (Ends.mk (by decide)) ⟨32, [33], rfl, by decide⟩) ⟨32, [64], rfl, by decide⟩) hw
  have g10 := (g9.sp).word (w := wTrans) (Ends.mk (by decide)) (by decide)
  have e : sepOf false = [32] := rfl
  rw [e] at g10
  rw [← sepT_of] at g10
  simpa [transT, headT, transK, wTrans] using g10
end

/-- a net whose text can be read -/
structure Tells (n : Nt) : Prop where
  pl : ∀ p ∈ n.places, wordB (nb p.name) = true ∧ p.tok ≤ 1000000
  tr : ∀ t ∈ n.trans, wordB (nb t.name) = true ∧ t.delay ≤ 1000000 ∧ t.prio ≤ 1000000 ∧ ArcsTo n.places t.inn ∧ ArcsTo n.places t.nt ∧ ArcsTo n.places t.out
def textK (n : Nt) : List TK := n.places.flatMap placeK ++ (n.trans.flatMap (transK n.places) ++ [(0, [], 0)])
theorem to_flat {α : Type} {f : α → List UInt8} {g : α → List TK} {r : List UInt8} {ks : List TK} (h : To r ks) : ∀ (l : List α), (∀ x ∈ l, ∀ r ks, To r ks → To (f x ++ r) (g x ++ ks)) → To (l.flatMap f ++ r) (l.flatMap g ++ ks)
  | [], _ => by simpa using h
  | x :: l, hl => by
    have h1 := to_flat h l (fun y hy => hl y (by simp [hy]))
    have h2 := hl x (by simp) _ _ h1
    simpa using h2
theorem Tells.to {n : Nt} (h : Tells n) : To (textN n) (textK n) := by
  have h1 := to_flat (f := transT n.places) (g := transK n.places) To.nil n.trans (fun t ht r ks hr => by
    obtain ⟨a, b, c, d, e, f⟩ := h.tr t ht
    exact hr.trans a b c d e f)
  have h2 := to_flat (f := placeT) (g := placeK) h1 n.places (fun p hp r ks hr => hr.place (h.pl p hp).1 (h.pl p hp).2)
  simpa [textN, textK] using h2
end Go.Proofs.Ytfiielibnnodkaa

/-! ## TextParse -/
namespace Go.Proofs.Ytfiielibnnodkaa
set_option linter.unusedVariables false

section
variable {ts : List Tok} {a : TK} {k : List TK}

theorem hd_kind (h : ts.map strip = a :: k) : (hd ts).kind = a.1 := by
  cases ts with
  | nil => cases h
  | cons t us => injection h with h _; rw [← h]; rfl
theorem hd_text (h : ts.map strip = a :: k) : (hd ts).text = a.2.1 := by
  cases ts with
  | nil => cases h
  | cons t us => injection h with h _; rw [← h]; rfl
theorem hd_num (h : ts.map strip = a :: k) : (hd ts).num = a.2.2 := by
  cases ts with
  | nil => cases h
  | cons t us => injection h with h _; rw [← h]; rfl
theorem tl_map (h : ts.map strip = a :: k) : ts.tail.map strip = k := by
  cases ts with
  | nil => cases h
  | cons t us => injection h with _ h

/-- the first token's text -/
def hT (k : List TK) : List UInt8 := (k.headD (0, [], 0)).2.1
theorem hd_hT (h : ts.map strip = k) : (hd ts).text = hT k := by
  subst h
  cases ts with
  | nil => rfl
  | cons t us => rfl

theorem numG_opt {c : UInt8} {least v : Int} (h : ts.map strip = optK [(3, [c], 0)] least v ++ k) (h0 : 0 ≤ least) (h1 : least ≤ v) (h2 : v ≤ 1000000) (hk : hT k ≠ [c]) :
    ∃ us, numG [c] least ts = (v, 0, us) ∧ us.map strip = k := by
  unfold optK at h
  by_cases e : v = least
  · rw [if_pos e] at h
    refine ⟨ts, ?_, h⟩
    unfold numG
    rw [if_neg (by rw [hd_hT h]; exact hk), e]
  · rw [if_neg e] at h
    have t1 := tl_map h
    refine ⟨ts.tail.tail, ?_, tl_map t1⟩
    unfold numG
    rw [if_pos (hd_text h), hd_kind t1, hd_num t1, if_neg (by simp), if_neg (by simp only; omega)]
    simp only [Prod.mk.injEq, and_true]
    omega
end

/-- arcs of a net of the places named ns, told by ps -/
structure ArcIn (ns : List (List UInt8)) (ps : List Pl) (a : Int × Int) : Prop where
  lo : 1 ≤ a.2
  hi : a.2 ≤ 1000000
  mem : plName ps a.1 ∈ ns
  idx : ((ns.idxOf (plName ps a.1) : Nat) : Int) = a.1

section
variable {ns : List (List UInt8)} {ps : List Pl}

theorem arcG_told {ts : List Tok} {k : List TK} {a : Int × Int} {l : List (Int × Int)} (h : ts.map strip = arcK ps a ++ k) (hk : hT k ≠ [42]) (ha : ArcIn ns ps a) (hl : l.length < 8) (hp : hasP l a.1 = false) :
    ∃ us, arcG ns l ts = (l ++ [a], 0, us) ∧ us.map strip = k := by
  unfold arcK at h
  have e1 := hd_kind h
  have e2 := hd_text h
  obtain ⟨us, h1, h2⟩ := numG_opt (tl_map h) (by omega) ha.lo ha.hi hk
  refine ⟨us, ?_, h2⟩
  unfold arcG
  rw [e1, e2]
  simp only
  rw [if_neg (by simp), ha.idx, hp, if_neg (by simp [ha.mem]), if_neg (by omega), h1]
  simp

/-- what an element of a list is put to -/
def putB (x : LS) (e : Bool × Int × Int) : LS := if e.1 = true then { x with nt := x.nt ++ [e.2] } else { x with inn := x.inn ++ [e.2] }
def putO (x : LS) (e : Bool × Int × Int) : LS := { x with out := x.out ++ [e.2] }
def elK (ps : List Pl) (e : Bool × Int × Int) : List TK := markK (if e.1 = true then [126] else []) ++ arcK ps e.2
/-- the rest of a list, each element with a comma ahead -/
def moreK (ps : List Pl) : List (Bool × Int × Int) → List TK
  | [] => []
  | e :: es => (3, [44], 0) :: (elK ps e ++ moreK ps es)

theorem putB_ts (x : LS) (e : Bool × Int × Int) (us : List Tok) : putB { x with ts := us } e = { putB x e with ts := us } := by unfold putB; split <;> rfl
theorem putO_ts (x : LS) (e : Bool × Int × Int) (us : List Tok) : putO { x with ts := us } e = { putO x e with ts := us } := rfl

theorem more_hT (es : List (Bool × Int × Int)) (k : List TK) (hk : hT k ≠ [42]) : hT (moreK ps es ++ k) ≠ [42] := by
  cases es with
  | nil => exact hk
  | cons e es => simp [moreK, hT]

theorem foldl_ts {put : LS → Bool × Int × Int → LS} (hp : ∀ x e us, put { x with ts := us } e = { put x e with ts := us }) (us : List Tok) : ∀ (es : List (Bool × Int × Int)) (x : LS), es.foldl put { x with ts := us } = { es.foldl put x with ts := us }
  | [], x => rfl
  | e :: es, x => by rw [List.foldl_cons, List.foldl_cons, hp, foldl_ts hp us es]

theorem listG_told {step : LS → LS × Int} {put : LS → Bool × Int × Int → LS} {can : LS → List (Bool × Int × Int) → Prop} (hp : ∀ x e us, put { x with ts := us } e = { put x e with ts := us })
    (h1 : ∀ x e es k, can x (e :: es) → x.ts.map strip = elK ps e ++ k → hT k ≠ [42] → ∃ us, step x = ({ put x e with ts := us }, 0) ∧ us.map strip = k)
    (h2 : ∀ x e es us, can x (e :: es) → can { put x e with ts := us } es) :
    ∀ (es : List (Bool × Int × Int)) (e : Bool × Int × Int) (x : LS) (k : List TK) (f : Nat), can x (e :: es) → x.ts.map strip = elK ps e ++ (moreK ps es ++ k) → hT k ≠ [42] → hT k ≠ [44] → es.length < f →
      ∃ us, listG step f x = ({ (e :: es).foldl put x with ts := us }, 0) ∧ us.map strip = k
  | es, e, x, k, 0, _, _, _, _, hf => by omega
  | [], e, x, k, f + 1, hc, ht, hk1, hk2, hf => by
    obtain ⟨us, q1, q2⟩ := h1 x e [] (moreK ps [] ++ k) hc ht hk1
    refine ⟨us, ?_, q2⟩
    unfold listG
    rw [q1]
    simp only [ne_eq, not_true_eq_false, if_false]
    rw [if_neg (by rw [hd_hT q2]; exact hk2)]
    rfl
  | e2 :: es, e, x, k, f + 1, hc, ht, hk1, hk2, hf => by
    obtain ⟨us, q1, q2⟩ := h1 x e (e2 :: es) (moreK ps (e2 :: es) ++ k) hc ht (more_hT _ _ hk1)
    have q3 : us.map strip = (3, [44], 0) :: (elK ps e2 ++ (moreK ps es ++ k)) := by rw [q2]; simp [moreK]
    have hc2 := h2 x e (e2 :: es) us.tail hc
    obtain ⟨vs, r1, r2⟩ := listG_told hp h1 h2 es e2 { put x e with ts := us.tail } k f hc2 (tl_map q3) hk1 hk2 (by simpa using hf)
    refine ⟨vs, ?_, r2⟩
    unfold listG
    rw [q1]
    simp only [ne_eq, not_true_eq_false, if_false]
    rw [if_pos (hd_text q3), r1]
    rw [foldl_ts hp us.tail]
    rfl

/-! ### the two lists ahead of the arrow, and the one behind it -/
def elems (b : Bool) (l : List (Int × Int)) : List (Bool × Int × Int) := l.map (fun a => (b, a))
theorem arcsK_more (b : Bool) (l : List (Int × Int)) : arcsK ps (if b = true then [126] else []) true l = moreK ps (elems b l) := by
  induction l with
  | nil => rfl
  | cons a l ih =>
    rw [arcsK, ih]
    simp [elems, moreK, elK]
theorem arcsK_first (b : Bool) (a : Int × Int) (l : List (Int × Int)) : arcsK ps (if b = true then [126] else []) false (a :: l) = elK ps (b, a) ++ moreK ps (elems b l) := by
  rw [arcsK, arcsK_more]
  simp [elK]
theorem moreK_app (x y : List (Bool × Int × Int)) : moreK ps (x ++ y) = moreK ps x ++ moreK ps y := by
  induction x with
  | nil => rfl
  | cons e x ih => simp [moreK, ih]
theorem foldB_in (l : List (Int × Int)) : ∀ x : LS, (elems false l).foldl putB x = { x with inn := x.inn ++ l } := by
  induction l with
  | nil => intro x; simp [elems]
  | cons a l ih => intro x; rw [elems, List.map_cons, List.foldl_cons, ← elems, ih]; simp [putB]
theorem foldB_nt (l : List (Int × Int)) : ∀ x : LS, (elems true l).foldl putB x = { x with nt := x.nt ++ l } := by
  induction l with
  | nil => intro x; simp [elems]
  | cons a l ih => intro x; rw [elems, List.map_cons, List.foldl_cons, ← elems, ih]; simp [putB]
theorem foldO (b : Bool) (l : List (Int × Int)) : ∀ x : LS, (elems b l).foldl putO x = { x with out := x.out ++ l } := by
  induction l with
  | nil => intro x; simp [elems]
  | cons a l ih => intro x; rw [elems, List.map_cons, List.foldl_cons, ← elems, ih]; simp [putO]

/-- a list that can be read: few, all in bounds, no place twice -/
structure ListIn (ns : List (List UInt8)) (ps : List Pl) (l : List (Int × Int)) : Prop where
  few : l.length ≤ 8
  all : ∀ a ∈ l, ArcIn ns ps a
  dist : l.Pairwise (fun a b => a.1 ≠ b.1)

def tru (es : List (Bool × Int × Int)) : List (Int × Int) := (es.filter (·.1)).map (·.2)
def fls (es : List (Bool × Int × Int)) : List (Int × Int) := (es.filter (fun e => !e.1)).map (·.2)
def canB (ns : List (List UInt8)) (ps : List Pl) (x : LS) (es : List (Bool × Int × Int)) : Prop := ListIn ns ps (x.inn ++ fls es) ∧ ListIn ns ps (x.nt ++ tru es)
def canO (ns : List (List UInt8)) (ps : List Pl) (x : LS) (es : List (Bool × Int × Int)) : Prop := (∀ e ∈ es, e.1 = false) ∧ ListIn ns ps (x.out ++ es.map (·.2))

theorem ListIn.first {l r : List (Int × Int)} {a : Int × Int} (h : ListIn ns ps (l ++ a :: r)) : ArcIn ns ps a ∧ l.length < 8 ∧ hasP l a.1 = false := by
  refine ⟨h.all a (by simp), by have := h.few; simp at this; omega, ?_⟩
  unfold hasP
  rw [List.any_eq_false]
  intro b hb
  have := (List.pairwise_append.1 h.dist).2.2 b hb a (by simp)
  simpa using this
theorem arcK_hT (a : Int × Int) (k : List TK) : hT (arcK ps a ++ k) = plName ps a.1 := rfl

theorem look_told (hw : ∀ s ∈ ns, s ≠ [126]) (x : LS) (e : Bool × Int × Int) (es : List (Bool × Int × Int)) (k : List TK) (hc : canB ns ps x (e :: es)) (ht : x.ts.map strip = elK ps e ++ k) (hk : hT k ≠ [42]) :
    ∃ us, lookG ns x = ({ putB x e with ts := us }, 0) ∧ us.map strip = k := by
  obtain ⟨b, a⟩ := e
  cases b with
  | true =>
    have hl : ListIn ns ps (x.nt ++ a :: tru es) := hc.2
    obtain ⟨p1, p2, p3⟩ := hl.first
    have ht' : x.ts.map strip = (3, [126], 0) :: (arcK ps a ++ k) := by rw [ht]; simp [elK, markK]
    obtain ⟨us, q1, q2⟩ := arcG_told (tl_map ht') hk p1 p2 p3
    refine ⟨us, ?_, q2⟩
    unfold lookG
    rw [if_pos (hd_text ht'), q1]
    rfl
  | false =>
    have hl : ListIn ns ps (x.inn ++ a :: fls es) := hc.1
    obtain ⟨p1, p2, p3⟩ := hl.first
    have ht' : x.ts.map strip = arcK ps a ++ k := by rw [ht]; simp [elK, markK]
    obtain ⟨us, q1, q2⟩ := arcG_told ht' hk p1 p2 p3
    refine ⟨us, ?_, q2⟩
    unfold lookG
    rw [if_neg (by rw [hd_hT ht', arcK_hT]; exact hw _ p1.mem), q1]
    rfl
theorem out_told (x : LS) (e : Bool × Int × Int) (es : List (Bool × Int × Int)) (k : List TK) (hc : canO ns ps x (e :: es)) (ht : x.ts.map strip = elK ps e ++ k) (hk : hT k ≠ [42]) :
    ∃ us, outG ns x = ({ putO x e with ts := us }, 0) ∧ us.map strip = k := by
  obtain ⟨b, a⟩ := e
  obtain rfl : b = false := hc.1 (b, a) (by simp)
  have hl : ListIn ns ps (x.out ++ a :: es.map (·.2)) := hc.2
  obtain ⟨p1, p2, p3⟩ := hl.first
  have ht' : x.ts.map strip = arcK ps a ++ k := by rw [ht]; simp [elK, markK]
  obtain ⟨us, q1, q2⟩ := arcG_told ht' hk p1 p2 p3
  refine ⟨us, ?_, q2⟩
  unfold outG
  rw [q1]
  rfl
theorem canB_next (x : LS) (e : Bool × Int × Int) (es : List (Bool × Int × Int)) (us : List Tok) (h : canB ns ps x (e :: es)) : canB ns ps { putB x e with ts := us } es := by
  obtain ⟨b, a⟩ := e
  cases b with
  | true =>
    have h1 : ListIn ns ps (x.nt ++ a :: tru es) := h.2
    refine ⟨h.1, ?_⟩
    simpa [putB] using h1
  | false =>
    have h1 : ListIn ns ps (x.inn ++ a :: fls es) := h.1
    refine ⟨?_, h.2⟩
    simpa [putB] using h1
theorem canO_next (x : LS) (e : Bool × Int × Int) (es : List (Bool × Int × Int)) (us : List Tok) (h : canO ns ps x (e :: es)) : canO ns ps { putO x e with ts := us } es := by
  refine ⟨fun y hy => h.1 y (by simp [hy]), ?_⟩
  have := h.2
  simpa [putO] using this
end
end Go.Proofs.Ytfiielibnnodkaa

/-! ## TextNet -/
namespace Go.Proofs.Ytfiielibnnodkaa
set_option linter.unusedVariables false

section
variable {ns : List (List UInt8)} {ps : List Pl}

theorem moreK_len (es : List (Bool × Int × Int)) : es.length ≤ (moreK ps es).length := by
  induction es with
  | nil => simp
  | cons e es ih => simp only [moreK, List.length_cons, List.length_append]; omega
theorem tru_elems (b : Bool) (l : List (Int × Int)) : tru (elems b l) = if b = true then l else [] := by
  induction l with
  | nil => cases b <;> rfl
  | cons a l ih =>
    cases b with
    | true => show a :: tru (elems true l) = _; rw [ih]; rfl
    | false => show tru (elems false l) = _; rw [ih]; rfl
theorem fls_elems (b : Bool) (l : List (Int × Int)) : fls (elems b l) = if b = true then [] else l := by
  induction l with
  | nil => cases b <;> rfl
  | cons a l ih =>
    cases b with
    | true => show fls (elems true l) = _; rw [ih]; rfl
    | false => show a :: fls (elems false l) = _; rw [ih]; rfl
theorem tru_app (x y : List (Bool × Int × Int)) : tru (x ++ y) = tru x ++ tru y := by simp [tru]
theorem fls_app (x y : List (Bool × Int × Int)) : fls (x ++ y) = fls x ++ fls y := by simp [fls]
theorem word_ne {s : List UInt8} (h : wordB s = true) {c : UInt8} {r : List UInt8} (hc : isSmall c = false) : s ≠ c :: r := by
  rintro rfl
  simp [wordB, hc] at h
theorem elems_snd (b : Bool) (l : List (Int × Int)) : (elems b l).map (·.2) = l := by
  induction l with
  | nil => rfl
  | cons a l ih => show a :: (elems b l).map (·.2) = _; rw [ih]

/-- the lists ahead of the arrow -/
theorem listTop_look (hw : ∀ s ∈ ns, wordB s = true) {ts : List Tok} {k : List TK} {I Nn : List (Int × Int)} (hI : ListIn ns ps I) (hN : ListIn ns ps Nn)
    (h : ts.map strip = arcsK ps [] false I ++ (arcsK ps [126] (decide (I ≠ [])) Nn ++ ((3, [45, 62], 0) :: k))) :
    ∃ us, listTop (lookG ns) [45, 62] ⟨ts, [], [], []⟩ = (⟨us, I, Nn, []⟩, 0) ∧ us.map strip = (3, [45, 62], 0) :: k := by
  have key : ∀ (e : Bool × Int × Int) (es : List (Bool × Int × Int)), (e :: es) = elems false I ++ elems true Nn → ts.map strip = elK ps e ++ (moreK ps es ++ ((3, [45, 62], 0) :: k)) → (hd ts).text ≠ [45, 62] →
      ∃ us, listTop (lookG ns) [45, 62] ⟨ts, [], [], []⟩ = (⟨us, I, Nn, []⟩, 0) ∧ us.map strip = (3, [45, 62], 0) :: k := by
    intro e es he ht hne
    have hc : canB ns ps ⟨ts, [], [], []⟩ (e :: es) := by
      rw [he]
      unfold canB
      rw [tru_app, fls_app, tru_elems, fls_elems, tru_elems, fls_elems]
      exact ⟨by simpa using hI, by simpa using hN⟩
    have hl := congrArg List.length ht
    simp only [List.length_map, List.length_append, List.length_cons] at hl
    have := moreK_len (ps := ps) es
    obtain ⟨us, q1, q2⟩ := listG_told (ps := ps) (step := lookG ns) (put := putB) (can := canB ns ps) putB_ts (fun x e es k => look_told (fun s hs => word_ne (hw s hs) (by decide)) x e es k) canB_next es e ⟨ts, [], [], []⟩ _ ts.length hc ht (by simp [hT]) (by simp [hT]) (by omega)
    refine ⟨us, ?_, q2⟩
    unfold listTop
    rw [if_neg hne]
    show listG (lookG ns) ts.length ⟨ts, [], [], []⟩ = _
    rw [q1, he, List.foldl_append, foldB_in, foldB_nt]
    rfl
  cases I with
  | nil =>
    cases Nn with
    | nil =>
      have h' : ts.map strip = (3, [45, 62], 0) :: k := h
      exact ⟨ts, by unfold listTop; rw [if_pos (hd_text h')], h'⟩
    | cons a l =>
      have h' : ts.map strip = elK ps (true, a) ++ (moreK ps (elems true l) ++ ((3, [45, 62], 0) :: k)) := by
        have e := arcsK_first (ps := ps) true a l
        rw [if_pos rfl] at e
        rw [h, show (decide (([] : List (Int × Int)) ≠ [])) = false from rfl, e]
        simp [arcsK]
      refine key (true, a) (elems true l) rfl h' ?_
      rw [hd_hT h']
      simp [elK, markK, hT]
  | cons a l =>
    have h' : ts.map strip = elK ps (false, a) ++ (moreK ps (elems false l ++ elems true Nn) ++ ((3, [45, 62], 0) :: k)) := by
      have e := arcsK_first (ps := ps) false a l
      have e2 := arcsK_more (ps := ps) true Nn
      rw [if_neg (by simp)] at e
      rw [if_pos rfl] at e2
      rw [h, show (decide ((a :: l) ≠ [])) = true by simp, e, e2, moreK_app]
      simp
    refine key (false, a) (elems false l ++ elems true Nn) rfl h' ?_
    rw [hd_hT h']
    have : hT (elK ps (false, a) ++ (moreK ps (elems false l ++ elems true Nn) ++ ((3, [45, 62], 0) :: k))) = plName ps a.1 := by simp [elK, markK, arcK, hT]
    rw [this]
    exact word_ne (hw _ (hI.all a (by simp)).mem) (by decide)

theorem listTop_out (hw : ∀ s ∈ ns, wordB s = true) {ts : List Tok} {k : List TK} {I Nn O : List (Int × Int)} (hO : ListIn ns ps O)
    (h : ts.map strip = arcsK ps [] false O ++ ((3, [59], 0) :: k)) :
    ∃ us, listTop (outG ns) [59] ⟨ts, I, Nn, []⟩ = (⟨us, I, Nn, O⟩, 0) ∧ us.map strip = (3, [59], 0) :: k := by
  cases O with
  | nil =>
    have h' : ts.map strip = (3, [59], 0) :: k := h
    exact ⟨ts, by unfold listTop; rw [if_pos (hd_text h')], h'⟩
  | cons a l =>
    have h' : ts.map strip = elK ps (false, a) ++ (moreK ps (elems false l) ++ ((3, [59], 0) :: k)) := by
      have e := arcsK_first (ps := ps) false a l
      rw [if_neg (by simp)] at e
      rw [h, e]
      simp
    have hc : canO ns ps ⟨ts, I, Nn, []⟩ (elems false (a :: l)) := by
      refine ⟨fun e he => ?_, ?_⟩
      · simp only [elems, List.mem_map] at he
        obtain ⟨x, _, rfl⟩ := he
        rfl
      · rw [elems_snd]
        simpa using hO
    have hl := congrArg List.length h'
    simp only [List.length_map, List.length_append, List.length_cons] at hl
    have := moreK_len (ps := ps) (elems false l)
    obtain ⟨us, q1, q2⟩ := listG_told (ps := ps) (step := outG ns) (put := putO) (can := canO ns ps) putO_ts (fun x e es k => out_told x e es k) canO_next (elems false l) (false, a) ⟨ts, I, Nn, []⟩ _ ts.length hc h' (by simp [hT]) (by simp [hT]) (by omega)
    refine ⟨us, ?_, q2⟩
    unfold listTop
    rw [if_neg (by
      rw [hd_hT h']
      have : hT (elK ps (false, a) ++ (moreK ps (elems false l) ++ ((3, [59], 0) :: k))) = plName ps a.1 := by simp [elK, markK, arcK, hT]
      rw [this]
      exact word_ne (hw _ (hO.all a (by simp)).mem) (by decide))]
    show listG (outG ns) ts.length ⟨ts, I, Nn, []⟩ = _
    rw [q1, show (false, a) :: elems false l = elems false (a :: l) from rfl, foldO]
    rfl

theorem arcsG_told (hw : ∀ s ∈ ns, wordB s = true) {ts : List Tok} {k : List TK} {t : Tr} (h1 : ListIn ns ps t.inn) (h2 : ListIn ns ps t.nt) (h3 : ListIn ns ps t.out)
    (h : ts.map strip = (3, [58], 0) :: (arcsK ps [] false t.inn ++ (arcsK ps [126] (decide (t.inn ≠ [])) t.nt ++ ((3, [45, 62], 0) :: (arcsK ps [] false t.out ++ ((3, [59], 0) :: k)))))) :
    ∃ us, arcsG ns ⟨ts, [], [], []⟩ = (⟨us, t.inn, t.nt, t.out⟩, 0) ∧ us.map strip = (3, [59], 0) :: k := by
  obtain ⟨us, q1, q2⟩ := listTop_look hw h1 h2 (tl_map h)
  obtain ⟨vs, r1, r2⟩ := listTop_out (I := t.inn) (Nn := t.nt) hw h3 (tl_map q2)
  refine ⟨vs, ?_, r2⟩
  unfold arcsG
  simp only
  rw [if_pos (hd_text h), q1]
  simp only [ne_eq, not_true_eq_false, if_false]
  rw [if_pos (hd_text q2), r1]

theorem opt_hT {s : List UInt8} {d v : Int} {k : List TK} {x : List UInt8} (h1 : s ≠ x) (h2 : hT k ≠ x) : hT (optK [(3, s, 0)] d v ++ k) ≠ x := by
  unfold optK
  split
  · exact h2
  · exact h1
theorem nameG_told {n : Nt} {ts : List Tok} {w : List UInt8} {k : List TK} (h : ts.map strip = (1, w, 0) :: k) (hn : newB n w = true) : nameG n ts = (w, 0, ts.tail) := by
  unfold nameG
  rw [hd_kind h, hd_text h, if_neg (by simp), hn, if_neg (by simp)]

theorem placeG_told {n : Nt} {p : Pl} {ts : List Tok} {k : List TK} (h : ts.map strip = (1, nb p.name, 0) :: (optK [(3, [61], 0)] 0 p.tok ++ ((3, [59], 0) :: k))) (hl : n.places.length < 32) (hn : newB n (nb p.name) = true) (ht : numB 0 p.tok = true) :
    ∃ us, placeG n ts = ({ n with places := n.places ++ [p] }, 0, us) ∧ us.map strip = (3, [59], 0) :: k := by
  simp only [numB, Bool.and_eq_true, decide_eq_true_eq] at ht
  obtain ⟨us, q1, q2⟩ := numG_opt (tl_map h) (by omega) ht.1 ht.2 (by simp [hT])
  refine ⟨us, ?_, q2⟩
  unfold placeG
  rw [if_neg (by omega), nameG_told h hn]
  simp only [ne_eq, not_true_eq_false, if_false]
  rw [q1]
  simp only [not_true_eq_false, if_false]
  have : (⟨(nb p.name).toArray⟩ : ByteArray) = p.name := bs_nb p.name
  rw [this]

theorem transG_told (hw : ∀ s ∈ ns, wordB s = true) {n : Nt} {t : Tr} {ts : List Tok} {k : List TK}
    (h : ts.map strip = (1, nb t.name, 0) :: (optK [(3, [64], 0)] 0 t.delay ++ (optK [(3, [33], 0)] 0 t.prio ++ ((3, [58], 0) :: (arcsK ps [] false t.inn ++ (arcsK ps [126] (decide (t.inn ≠ [])) t.nt ++ ((3, [45, 62], 0) :: (arcsK ps [] false t.out ++ ((3, [59], 0) :: k)))))))))
    (hl : n.trans.length < 32) (hn : newB n (nb t.name) = true) (hd' : numB 0 t.delay = true) (hp : numB 0 t.prio = true) (h1 : ListIn ns ps t.inn) (h2 : ListIn ns ps t.nt) (h3 : ListIn ns ps t.out) :
    ∃ us, transG ns n ts = ({ n with trans := n.trans ++ [t] }, 0, us) ∧ us.map strip = (3, [59], 0) :: k := by
  simp only [numB, Bool.and_eq_true, decide_eq_true_eq] at hd' hp
  obtain ⟨us, q1, q2⟩ := numG_opt (tl_map h) (by omega) hd'.1 hd'.2 (opt_hT (by simp) (by simp [hT]))
  obtain ⟨vs, r1, r2⟩ := numG_opt q2 (by omega) hp.1 hp.2 (by simp [hT])
  obtain ⟨ws, s1, s2⟩ := arcsG_told hw h1 h2 h3 r2
  refine ⟨ws, ?_, s2⟩
  have hh : headG n ts = ((nb t.name, t.delay, t.prio), 0, vs) := by
    unfold headG
    rw [nameG_told h hn]
    simp only [ne_eq, not_true_eq_false, if_false]
    rw [q1]
    simp only [not_true_eq_false, if_false]
    rw [r1]
    simp only [not_true_eq_false, if_false]
  unfold transG
  rw [if_neg (by omega), hh]
  simp only [ne_eq, not_true_eq_false, if_false]
  rw [s1]
  simp only [not_true_eq_false, if_false]
  have : (⟨(nb t.name).toArray⟩ : ByteArray) = t.name := bs_nb t.name
  rw [this]
end

/-! ### the names of the places, counted ahead -/
def hK (k : List TK) : Nat := (k.headD (0, [], 0)).1
def numsK : List (List UInt8) → List TK → List (List UInt8)
  | ns, [] => ns
  | ns, t :: ts => numsK (if t.2.1 = wPlace ∧ hK ts = 1 ∧ hT ts ∉ ns then ns ++ [hT ts] else ns) ts
theorem hd_hK {ts : List Tok} : (hd ts).kind = hK (ts.map strip) := by cases ts <;> rfl
theorem numsG_strip (ts : List Tok) : ∀ ns, numsG ns ts = numsK ns (ts.map strip) := by
  induction ts with
  | nil => intro ns; rfl
  | cons t ts ih =>
    intro ns
    rw [numsG, ih, hd_hK, hd_hT (ts := ts) rfl]
    rfl
theorem numsK_skip {ns : List (List UInt8)} {t : TK} {k : List TK} (h : t.2.1 ≠ wPlace ∨ hK k ≠ 1) : numsK ns (t :: k) = numsK ns k := by
  rw [numsK, if_neg]
  rintro ⟨a, b, _⟩
  rcases h with h | h
  · exact h a
  · exact h b
theorem digs_ne {n : Nat} (hn : n ≤ 1000000) : digs n ≠ wPlace := by
  intro e
  have := (digs_all hn).1 112 (by rw [e]; simp [wPlace])
  exact absurd this (by decide)
theorem opt_hK {s : List UInt8} {d v : Int} {k : List TK} (h : hK k ≠ 1) : hK (optK [(3, s, 0)] d v ++ k) ≠ 1 := by
  unfold optK
  split
  · exact h
  · show 3 ≠ 1; decide
theorem numsK_opt {ns : List (List UInt8)} {s : List UInt8} (hs : s ≠ wPlace) {d v : Int} (hv : v ≤ 1000000) {k : List TK} : numsK ns (optK [(3, s, 0)] d v ++ k) = numsK ns k := by
  unfold optK
  split
  · rfl
  · show numsK ns ((3, s, 0) :: (2, digs v.toNat, v.toNat) :: k) = _
    rw [numsK_skip (.inl hs), numsK_skip (.inl (digs_ne (by omega)))]
theorem arcs_hK {ps : List Pl} {mark : List UInt8} (l : List (Int × Int)) {k : List TK} (h : hK k ≠ 1) : hK (arcsK ps mark true l ++ k) ≠ 1 := by
  cases l with
  | nil => exact h
  | cons a l => show 3 ≠ 1; decide
theorem numsK_arcs {ns : List (List UInt8)} {ps : List Pl} {mark : List UInt8} (hm : mark = [] ∨ mark = [126]) {k : List TK} (hk : hK k ≠ 1) : ∀ (l : List (Int × Int)) (b : Bool), (∀ a ∈ l, a.2 ≤ 1000000) → numsK ns (arcsK ps mark b l ++ k) = numsK ns k
  | [], b, _ => rfl
  | a :: l, b, hl => by
    have h1 := numsK_arcs (ns := ns) (ps := ps) hm hk l true (fun x hx => hl x (by simp [hx]))
    have h2 : numsK ns (arcK ps a ++ (arcsK ps mark true l ++ k)) = numsK ns k := by
      show numsK ns ((1, plName ps a.1, 0) :: (optK [(3, [42], 0)] 1 a.2 ++ (arcsK ps mark true l ++ k))) = _
      rw [numsK_skip (.inr (opt_hK (arcs_hK l hk))), numsK_opt (by decide) (hl a (by simp)), h1]
    have h3 : numsK ns (markK mark ++ (arcK ps a ++ (arcsK ps mark true l ++ k))) = numsK ns k := by
      rcases hm with rfl | rfl
      · exact h2
      · show numsK ns ((3, [126], 0) :: (arcK ps a ++ (arcsK ps [126] true l ++ k))) = _
        rw [numsK_skip (.inl (by decide)), h2]
    rw [arcsK]
    cases b with
    | false => simpa using h3
    | true =>
      have : numsK ns ((3, [44], 0) :: (markK mark ++ (arcK ps a ++ (arcsK ps mark true l ++ k)))) = numsK ns k := by rw [numsK_skip (.inl (by decide)), h3]
      simpa using this
theorem numsK_trans {ns : List (List UInt8)} {ps : List Pl} {t : Tr} {k : List TK} (h1 : t.delay ≤ 1000000) (h2 : t.prio ≤ 1000000) (ha : ∀ a ∈ t.inn, a.2 ≤ 1000000) (hb : ∀ a ∈ t.nt, a.2 ≤ 1000000) (hc : ∀ a ∈ t.out, a.2 ≤ 1000000) : numsK ns (transK ps t ++ k) = numsK ns k := by
  have e : transK ps t ++ k = (1, wTrans, 0) :: (1, nb t.name, 0) :: (optK [(3, [64], 0)] 0 t.delay ++ (optK [(3, [33], 0)] 0 t.prio ++ ((3, [58], 0) :: (arcsK ps [] false t.inn ++ (arcsK ps [126] (decide (t.inn ≠ [])) t.nt ++ ((3, [45, 62], 0) :: (arcsK ps [] false t.out ++ ((3, [59], 0) :: k)))))))) := by simp [transK]
  have hx : hK (arcsK ps [126] (decide (t.inn ≠ [])) t.nt ++ ((3, [45, 62], 0) :: (arcsK ps [] false t.out ++ ((3, [59], 0) :: k)))) ≠ 1 := by
    cases hn : t.nt with
    | nil => show 3 ≠ 1; decide
    | cons a l => by_cases hi : t.inn = [] <;> simp [arcsK, markK, hi, hK]
  rw [e, numsK_skip (.inl (by decide)), numsK_skip (.inr (opt_hK (opt_hK (by show 3 ≠ 1; decide)))), numsK_opt (by decide) h1, numsK_opt (by decide) h2, numsK_skip (.inl (by decide)), numsK_arcs (.inl rfl) hx _ _ ha, numsK_arcs (.inr rfl) (by show 3 ≠ 1; decide) _ _ hb, numsK_skip (.inl (by decide)), numsK_arcs (.inl rfl) (by show 3 ≠ 1; decide) _ _ hc, numsK_skip (.inl (by decide))]
theorem numsK_place {ns : List (List UInt8)} {p : Pl} {k : List TK} (h1 : p.tok ≤ 1000000) (hn : nb p.name ∉ ns) : numsK ns (placeK p ++ k) = numsK (ns ++ [nb p.name]) k := by
  have e : placeK p ++ k = (1, wPlace, 0) :: (1, nb p.name, 0) :: (optK [(3, [61], 0)] 0 p.tok ++ ((3, [59], 0) :: k)) := by simp [placeK]
  rw [e, numsK, if_pos ⟨rfl, rfl, hn⟩]
  show numsK (ns ++ [nb p.name]) ((1, nb p.name, 0) :: _) = _
  rw [numsK_skip (.inr (opt_hK (by show 3 ≠ 1; decide))), numsK_opt (by decide) h1, numsK_skip (.inl (by decide))]
theorem numsK_transs {ns : List (List UInt8)} {ps : List Pl} {k : List TK} : ∀ (l : List Tr), (∀ t ∈ l, t.delay ≤ 1000000 ∧ t.prio ≤ 1000000 ∧ (∀ a ∈ t.inn, a.2 ≤ 1000000) ∧ (∀ a ∈ t.nt, a.2 ≤ 1000000) ∧ (∀ a ∈ t.out, a.2 ≤ 1000000)) → numsK ns (l.flatMap (transK ps) ++ k) = numsK ns k
  | [], _ => rfl
  | t :: l, h => by
    obtain ⟨a, b, c, d, e⟩ := h t (by simp)
    rw [List.flatMap_cons, List.append_assoc, numsK_trans a b c d e, numsK_transs l (fun x hx => h x (by simp [hx]))]
theorem numsK_places {k : List TK} : ∀ (l : List Pl) (ns : List (List UInt8)), (∀ p ∈ l, p.tok ≤ 1000000) → (ns ++ l.map (fun p => nb p.name)).Pairwise (· ≠ ·) → numsK ns (l.flatMap placeK ++ k) = numsK (ns ++ l.map (fun p => nb p.name)) k
  | [], ns, _, _ => by simp
  | p :: l, ns, h, hd' => by
    have hn : nb p.name ∉ ns := fun hm => (List.pairwise_append.1 hd').2.2 _ hm _ (by simp) rfl
    rw [List.flatMap_cons, List.append_assoc, numsK_place (h p (by simp)) hn, numsK_places l (ns ++ [nb p.name]) (fun x hx => h x (by simp [hx])) (by simpa using hd')]
    simp
end Go.Proofs.Ytfiielibnnodkaa

/-! ## TextAll -/
namespace Go.Proofs.Ytfiielibnnodkaa
set_option linter.unusedVariables false

/-! ### what it means that a net may be -/
theorem arcsErr_parts {P : Int} : ∀ (l pre : List (Int × Int)), arcsErr P pre l = 0 → (∀ a ∈ l, numB 1 a.2 = true ∧ inP P a.1 = true) ∧ (∀ b ∈ pre, ∀ a ∈ l, b.1 ≠ a.1) ∧ l.Pairwise (fun a b => a.1 ≠ b.1)
  | [], pre, _ => ⟨fun a ha => by simp at ha, fun b hb a ha => by simp at ha, .nil⟩
  | a :: l, pre, h => by
    rw [arcsErr] at h
    cases e1 : numB 1 a.2 with
    | false => rw [e1, if_pos rfl] at h; omega
    | true =>
      cases e2 : inP P a.1 with
      | false => rw [e1, e2, if_neg (by simp), if_pos rfl] at h; omega
      | true =>
        cases e3 : hasP pre a.1 with
        | true => rw [e1, e2, e3, if_neg (by simp), if_neg (by simp), if_pos rfl] at h; omega
        | false =>
          rw [e1, e2, e3, if_neg (by simp), if_neg (by simp), if_neg (by simp)] at h
          obtain ⟨h1, h2, h3⟩ := arcsErr_parts l (pre ++ [a]) h
          unfold hasP at e3
          rw [List.any_eq_false] at e3
          refine ⟨fun x hx => ?_, fun b hb x hx => ?_, List.pairwise_cons.2 ⟨fun x hx => h2 a (by simp) x hx, h3⟩⟩
          · rcases List.mem_cons.1 hx with rfl | hx
            · exact ⟨e1, e2⟩
            · exact h1 x hx
          · rcases List.mem_cons.1 hx with rfl | hx
            · have := e3 b hb; simpa using this
            · exact h2 b (by simp [hb]) x hx
theorem namesBad_parts : ∀ (l pre : List ByteArray), namesBad pre l = false → (∀ s ∈ l, nameB s.data.toList = true) ∧ (∀ b ∈ pre, ∀ a ∈ l, sEq b a = false) ∧ l.Pairwise (fun a b => sEq a b = false)
  | [], pre, _ => ⟨fun a ha => by simp at ha, fun b hb a ha => by simp at ha, .nil⟩
  | a :: l, pre, h => by
    rw [namesBad] at h
    cases e1 : nameB a.data.toList with
    | false => rw [e1, if_pos rfl] at h; cases h
    | true =>
      cases e3 : hasS pre a with
      | true => rw [e1, e3, if_neg (by simp), if_pos rfl] at h; cases h
      | false =>
        rw [e1, e3, if_neg (by simp), if_neg (by simp)] at h
        obtain ⟨h1, h2, h3⟩ := namesBad_parts l (pre ++ [a]) h
        unfold hasS at e3
        rw [List.any_eq_false] at e3
        refine ⟨fun x hx => ?_, fun b hb x hx => ?_, List.pairwise_cons.2 ⟨fun x hx => h2 a (by simp) x hx, h3⟩⟩
        · rcases List.mem_cons.1 hx with rfl | hx
          · exact e1
          · exact h1 x hx
        · rcases List.mem_cons.1 hx with rfl | hx
          · have := e3 b hb; simpa using this
          · exact h2 b (by simp [hb]) x hx
theorem transErr_parts {P : Int} : ∀ (ts : List Tr), transErr P ts = 0 → ∀ t ∈ ts, numB 0 t.delay = true ∧ numB 0 t.prio = true ∧ arcsErr P [] t.inn = 0 ∧ arcsErr P [] t.nt = 0 ∧ arcsErr P [] t.out = 0
  | [], _, t, ht => by simp at ht
  | u :: ts, h, t, ht => by
    rw [transErr] at h
    cases e1 : (numB 0 u.delay && numB 0 u.prio) with
    | false => rw [e1, if_pos rfl] at h; omega
    | true =>
      rw [e1, if_neg (by simp)] at h
      by_cases e2 : listsErr P u.lists = 0
      · rw [if_pos e2] at h
        rcases List.mem_cons.1 ht with rfl | ht
        · simp only [Bool.and_eq_true] at e1
          refine ⟨e1.1, e1.2, ?_⟩
          simp only [Tr.lists, listsErr] at e2
          by_cases a1 : arcsErr P [] t.inn = 0
          · rw [if_pos a1] at e2
            by_cases a2 : arcsErr P [] t.nt = 0
            · rw [if_pos a2] at e2
              by_cases a3 : arcsErr P [] t.out = 0
              · exact ⟨a1, a2, a3⟩
              · rw [if_neg a3] at e2; exact absurd e2 a3
            · rw [if_neg a2] at e2; exact absurd e2 a2
          · rw [if_neg a1] at e2; exact absurd e2 a1
        · exact transErr_parts ts h t ht
      · rw [if_neg e2] at h; exact absurd h e2
theorem checkN_netOk {n : Nt} (h : checkN n = 0) : NetOk n.places.length n := by
  unfold checkN at h
  cases e1 : tooLongB n with
  | true => rw [e1, if_pos rfl] at h; omega
  | false =>
    cases e2 : namesBad [] n.names with
    | true => rw [e1, e2, if_neg (by simp), if_pos rfl] at h; omega
    | false =>
      cases e3 : placesBad n.places with
      | true => rw [e1, e2, e3, if_neg (by simp), if_neg (by simp), if_pos rfl] at h; omega
      | false =>
        rw [e1, e2, e3, if_neg (by simp), if_neg (by simp), if_neg (by simp)] at h
        obtain ⟨n1, _, n3⟩ := namesBad_parts _ _ e2
        simp only [tooLongB, Bool.or_eq_false_iff, decide_eq_false_iff_not, List.any_eq_false] at e1
        simp only [placesBad, List.any_eq_false, Bool.not_eq_true, Bool.not_eq_false'] at e3
        have hT := transErr_parts _ h
        refine ⟨by omega, by omega, e3, n1, n3, fun t ht => ?_⟩
        obtain ⟨a, b, c, d, e⟩ := hT t ht
        have hm : t.most ≤ 8 := by
          have := e1.2.2 t ht
          unfold longT at this
          simpa using this
        unfold Tr.most at hm
        exact ⟨a, b, ⟨c, by omega⟩, ⟨d, by omega⟩, ⟨e, by omega⟩⟩

theorem idxOf_dist : ∀ (l : List (List UInt8)), l.Pairwise (· ≠ ·) → ∀ (i : Nat) (a : List UInt8), l[i]? = some a → l.idxOf a = i
  | [], _, i, a, h => by simp at h
  | x :: l, hd', 0, a, h => by
    simp at h
    subst h
    simp
  | x :: l, hd', i + 1, a, h => by
    rw [List.pairwise_cons] at hd'
    simp only [List.getElem?_cons_succ] at h
    have hne : x ≠ a := hd'.1 a (List.mem_of_getElem? h)
    have hb : (x == a) = false := by simpa using hne
    rw [List.idxOf_cons, hb, idxOf_dist l hd'.2 i a h]
    rfl

section
variable {N : Nt}
def nsOf (N : Nt) : List (List UInt8) := N.places.map (fun p => nb p.name)
theorem sEq_ne {a b : ByteArray} (h : sEq a b = false) : nb a ≠ nb b := by
  unfold sEq at h
  intro e
  unfold nb at e
  rw [e] at h
  simp at h
theorem NetOk.nsd {P : Nat} (h : NetOk P N) : (nsOf N).Pairwise (· ≠ ·) := by
  have h1 := (List.pairwise_append.1 h.dist).1
  unfold nsOf
  rw [List.pairwise_map] at h1 ⊢
  exact h1.imp (fun e => sEq_ne e)
theorem NetOk.word {P : Nat} (h : NetOk P N) : ∀ s ∈ nsOf N, wordB s = true := by
  intro s hs
  simp only [nsOf, List.mem_map] at hs
  obtain ⟨p, hp, rfl⟩ := hs
  have := h.nm p.name (by simp only [Nt.names, List.mem_append, List.mem_map]; exact .inl ⟨p, hp, rfl⟩)
  simp only [nameB, Bool.and_eq_true] at this
  exact this.1
theorem ArcsOk.listIn (hN : NetOk N.places.length N) {l : List (Int × Int)} (h : ArcsOk N.places.length l) : ListIn (nsOf N) N.places l := by
  obtain ⟨h1, _, h3⟩ := arcsErr_parts l [] h.err
  refine ⟨h.len, fun a ha => ?_, h3⟩
  obtain ⟨a1, a2⟩ := h1 a ha
  simp only [numB, inP, Bool.and_eq_true, decide_eq_true_eq] at a1 a2
  obtain ⟨p, hp⟩ := at_lt (l := N.places) (k := a.1.toNat) (by omega)
  have e : plName N.places a.1 = nb p.name := by unfold plName; rw [List.getD_eq_getElem?_getD, hp]; rfl
  have hq : (nsOf N)[a.1.toNat]? = some (nb p.name) := by unfold nsOf; rw [List.getElem?_map, hp]; rfl
  refine ⟨a1.1, a1.2, ?_, ?_⟩
  · rw [e]; exact List.mem_of_getElem? hq
  · rw [e, idxOf_dist _ hN.nsd _ _ hq]; omega
theorem NetOk.tells (hN : NetOk N.places.length N) : Tells N := by
  refine ⟨fun p hp => ?_, fun t ht => ?_⟩
  · have h1 := hN.tok p hp
    simp only [numB, Bool.and_eq_true, decide_eq_true_eq] at h1
    exact ⟨hN.word _ (by simp only [nsOf, List.mem_map]; exact ⟨p, hp, rfl⟩), h1.2⟩
  · obtain ⟨a, b, c, d, e⟩ := hN.trs t ht
    simp only [numB, Bool.and_eq_true, decide_eq_true_eq] at a b
    have hn := hN.nm t.name (by simp only [Nt.names, List.mem_append, List.mem_map]; exact .inr ⟨t, ht, rfl⟩)
    simp only [nameB, Bool.and_eq_true] at hn
    have key : ∀ l, ArcsOk N.places.length l → ArcsTo N.places l := fun l hl x hx => by
      have := (hl.listIn hN).all x hx
      exact ⟨this.hi, hN.word _ this.mem⟩
    exact ⟨hn.1, a.2, b.2, key _ c, key _ d, key _ e⟩

/-! ### item by item -/
theorem newB_of {n : Nt} {s : ByteArray} (h1 : nameB (nb s) = true) (h2 : ∀ p ∈ n.places, sEq p.name s = false) (h3 : ∀ t ∈ n.trans, sEq t.name s = false) : newB n (nb s) = true := by
  have e : (⟨(nb s).toArray⟩ : ByteArray) = s := bs_nb s
  unfold newB
  rw [h1, e]
  have a1 : (n.places.any fun p => sEq p.name s) = false := by rw [List.any_eq_false]; intro p hp; rw [h2 p hp]; simp
  have a2 : (n.trans.any fun p => sEq p.name s) = false := by rw [List.any_eq_false]; intro p hp; rw [h3 p hp]; simp
  rw [a1, a2]
  rfl
theorem hdk_ne {ts : List Tok} {w : List UInt8} {k : List TK} (h : ts.map strip = (1, w, 0) :: k) : ¬ (hd ts).kind = 0 := by rw [hd_kind h]; simp

theorem items_places {ns : List (List UInt8)} : ∀ (l : List Pl) (n : Nt) (ts : List Tok) (k : List TK) (f : Nat), ts.map strip = l.flatMap placeK ++ k → n.trans = [] → (n.places ++ l).length ≤ 32 → (∀ p ∈ l, numB 0 p.tok = true ∧ nameB (nb p.name) = true) → (n.places ++ l).Pairwise (fun a b => sEq a.name b.name = false) → l.length ≤ f →
    ∃ us, itemsG ns f n ts = itemsG ns (f - l.length) ⟨n.places ++ l, []⟩ us ∧ us.map strip = k
  | [], n, ts, k, f, h, hn, _, _, _, _ => ⟨ts, by obtain ⟨a, b⟩ := n; simp only at hn; subst hn; simp, h⟩
  | p :: l, n, ts, k, 0, h, hn, hl, hp, hd', hf => by simp at hf
  | p :: l, n, ts, k, f + 1, h, hn, hl, hp, hd', hf => by
    have h' : ts.map strip = (1, wPlace, 0) :: (1, nb p.name, 0) :: (optK [(3, [61], 0)] 0 p.tok ++ ((3, [59], 0) :: (l.flatMap placeK ++ k))) := by rw [h]; simp [placeK]
    have hl2 : n.places.length < 32 := by simp at hl; omega
    have hdp := (List.pairwise_append.1 hd').2.2
    obtain ⟨us, q1, q2⟩ := placeG_told (n := n) (tl_map h') hl2 (newB_of (hp p (by simp)).2 (fun q hq => hdp q hq p (by simp)) (fun t ht => by rw [hn] at ht; simp at ht)) (hp p (by simp)).1
    obtain ⟨vs, r1, r2⟩ := items_places (ns := ns) l { n with places := n.places ++ [p] } us.tail k f (tl_map q2) hn (by simpa using hl) (fun x hx => hp x (by simp [hx])) (by simpa using hd') (by simpa using hf)
    refine ⟨vs, ?_, r2⟩
    have e : itemG ns n ts = ({ n with places := n.places ++ [p] }, 0, us) := by unfold itemG; rw [if_pos (hd_text h'), q1]
    have e2 : f + 1 - (p :: l).length = f - l.length := by simp
    rw [e2]
    conv => lhs; unfold itemsG
    rw [if_neg (hdk_ne h'), e]
    simp only [not_true_eq_false, if_false, ne_eq]
    rw [if_pos (hd_text q2), r1]
    simp

theorem items_trans {ns : List (List UInt8)} {ps : List Pl} (hw : ∀ s ∈ ns, wordB s = true) : ∀ (l : List Tr) (n : Nt) (ts : List Tok) (k : List TK) (f : Nat), ts.map strip = l.flatMap (transK ps) ++ k → (n.trans ++ l).length ≤ 32 →
    (∀ t ∈ l, numB 0 t.delay = true ∧ numB 0 t.prio = true ∧ nameB (nb t.name) = true ∧ ListIn ns ps t.inn ∧ ListIn ns ps t.nt ∧ ListIn ns ps t.out) → (∀ p ∈ n.places, ∀ t ∈ l, sEq p.name t.name = false) → (n.trans ++ l).Pairwise (fun a b => sEq a.name b.name = false) → l.length ≤ f →
    ∃ us, itemsG ns f n ts = itemsG ns (f - l.length) ⟨n.places, n.trans ++ l⟩ us ∧ us.map strip = k
  | [], n, ts, k, f, h, _, _, _, _, _ => ⟨ts, by simp, h⟩
  | t :: l, n, ts, k, 0, h, hl, hp, hpl, hd', hf => by simp at hf
  | t :: l, n, ts, k, f + 1, h, hl, hp, hpl, hd', hf => by
    have h' : ts.map strip = (1, wTrans, 0) :: (1, nb t.name, 0) :: (optK [(3, [64], 0)] 0 t.delay ++ (optK [(3, [33], 0)] 0 t.prio ++ ((3, [58], 0) :: (arcsK ps [] false t.inn ++ (arcsK ps [126] (decide (t.inn ≠ [])) t.nt ++ ((3, [45, 62], 0) :: (arcsK ps [] false t.out ++ ((3, [59], 0) :: (l.flatMap (transK ps) ++ k))))))))) := by rw [h]; simp [transK]
    have hl2 : n.trans.length < 32 := by simp at hl; omega
    have hdp := (List.pairwise_append.1 hd').2.2
    obtain ⟨a1, a2, a3, a4, a5, a6⟩ := hp t (by simp)
    obtain ⟨us, q1, q2⟩ := transG_told hw (n := n) (tl_map h') hl2 (newB_of a3 (fun q hq => hpl q hq t (by simp)) (fun q hq => hdp q hq t (by simp))) a1 a2 a4 a5 a6
    obtain ⟨vs, r1, r2⟩ := items_trans hw l { n with trans := n.trans ++ [t] } us.tail k f (tl_map q2) (by simpa using hl) (fun x hx => hp x (by simp [hx])) (fun p hp x hx => hpl p hp x (by simp [hx])) (by simpa using hd') (by simpa using hf)
    refine ⟨vs, ?_, r2⟩
    have e : itemG ns n ts = ({ n with trans := n.trans ++ [t] }, 0, us) := by unfold itemG; rw [if_neg (by rw [hd_text h']; simp [wTrans, wPlace]), if_pos (hd_text h'), q1]
    have e2 : f + 1 - (t :: l).length = f - l.length := by simp
    rw [e2]
    conv => lhs; unfold itemsG
    rw [if_neg (hdk_ne h'), e]
    simp only [not_true_eq_false, if_false, ne_eq]
    rw [if_pos (hd_text q2), r1]
    simp

theorem flatK_len {α : Type} {g : α → List TK} (hg : ∀ x, 1 ≤ (g x).length) (l : List α) : l.length ≤ (l.flatMap g).length := by
  induction l with
  | nil => simp
  | cons x l ih => have := hg x; simp only [List.flatMap_cons, List.length_append, List.length_cons]; omega

/-- tokens that are those of a net's text come to that net -/
theorem parse_tokens (hN : NetOk N.places.length N) {T : List Tok} (h : T.map strip = textK N) : parseT T = .ok N := by
  have hns : numsG [] T = nsOf N := by
    rw [numsG_strip, h]
    unfold textK
    rw [numsK_places N.places [] (fun p hp => (hN.tells.pl p hp).2) (by have := hN.nsd; simpa [nsOf] using this), numsK_transs N.trans (fun t ht => by
      obtain ⟨_, a, b, c, d, e⟩ := hN.tells.tr t ht
      exact ⟨a, b, fun x hx => (c x hx).1, fun x hx => (d x hx).1, fun x hx => (e x hx).1⟩)]
    rw [numsK_skip (.inl (by decide))]
    rfl
  have hlen : N.places.length + N.trans.length + 1 ≤ T.length := by
    have e := congrArg List.length h
    have f1 := flatK_len (g := placeK) (fun x => by simp [placeK]) N.places
    have f2 := flatK_len (g := transK N.places) (fun x => by simp [transK]) N.trans
    simp only [textK, List.length_map, List.length_append, List.length_cons, List.length_nil] at e
    omega
  have hdist := List.pairwise_append.1 hN.dist
  obtain ⟨us, q1, q2⟩ := items_places (ns := nsOf N) N.places ⟨[], []⟩ T (N.trans.flatMap (transK N.places) ++ [(0, [], 0)]) T.length h rfl (by simpa using hN.pl) (fun p hp => ⟨hN.tok p hp, hN.nm p.name (by simp only [Nt.names, List.mem_append, List.mem_map]; exact .inl ⟨p, hp, rfl⟩)⟩) (by
    have := hdist.1
    rw [List.pairwise_map] at this
    simpa using this) (by omega)
  obtain ⟨vs, r1, r2⟩ := items_trans (ns := nsOf N) (ps := N.places) hN.word N.trans ⟨[] ++ N.places, []⟩ us [(0, [], 0)] (T.length - N.places.length) q2 (by simpa using hN.tr) (fun t ht => by
    obtain ⟨a, b, c, d, e⟩ := hN.trs t ht
    exact ⟨a, b, hN.nm t.name (by simp only [Nt.names, List.mem_append, List.mem_map]; exact .inr ⟨t, ht, rfl⟩), c.listIn hN, d.listIn hN, e.listIn hN⟩) (fun p hp t ht => hdist.2.2 p.name (by rw [List.mem_map]; exact ⟨p, by simpa using hp, rfl⟩) t.name (by rw [List.mem_map]; exact ⟨t, ht, rfl⟩)) (by
    have := hdist.2.1
    rw [List.pairwise_map] at this
    simpa using this) (by omega)
  have hend : itemsG (nsOf N) T.length ⟨[], []⟩ T = (N, 0, vs) := by
    rw [q1, r1]
    obtain ⟨f, hf⟩ : ∃ f, T.length - N.places.length - N.trans.length = f + 1 := ⟨T.length - N.places.length - N.trans.length - 1, by omega⟩
    rw [hf]
    unfold itemsG
    rw [if_pos (by rw [hd_kind r2])]
    simp
  unfold parseT
  rw [hns, hend]
  simp

/-- a net's text is that net -/
theorem parse_text (hN : NetOk N.places.length N) : parseL (textN N) = .ok N := by
  obtain ⟨ts, h1, h2⟩ := hN.tells.to 0
  unfold parseL
  rw [h1]
  exact parse_tokens hN h2
end
end Go.Proofs.Ytfiielibnnodkaa

/-! ## RTexts -/
/-! ## Conv2 -/
namespace Go.Proofs.Ytfiielibnnodkaa
open Go.RowKit
set_option linter.unusedVariables false

/-- two bytes as a text -/
theorem run_conv2 (w : World) (m d : Nat) (hm : m < 100) (hd : d < 100) : (convert 22 9 (.slice (some ⟨w.heap.size, 0, none⟩) 2 2)).run Try.prog (w.alloc (.cells #[.int .u8 (97 + (m : Int)), .int .u8 (97 + (d : Int))] 5)) = .ok (.string (bs [UInt8.ofNat (97 + m), UInt8.ofNat (97 + d)])) (w.alloc (.cells #[.int .u8 (97 + (m : Int)), .int .u8 (97 + (d : Int))] 5)) := by
  have hz : ∀ k : Nat, k < 100 → zi (UInt8.ofNat (97 + k)) = 97 + (k : Int) := by
    intro k hk
    unfold zi
    have : (UInt8.ofNat (97 + k)).toNat = 97 + k := by simp; omega
    rw [this]; omega
  have h1 := hz m hm
  have h2 := hz d hd
  generalize UInt8.ofNat (97 + m) = x at h1 ⊢
  generalize UInt8.ofNat (97 + d) = y at h2 ⊢
  have hcv := (BytesAt.str (w := w.alloc (.cells #[.int .u8 (zi x), .int .u8 (zi y)] 5)) (A := some ⟨w.heap.size, 0, none⟩) (n := 2) (l := [x, y]) ⟨rfl, fun _ => ⟨_, _, rfl, by simp, fun i z hx => by
    rw [Nat.zero_add, cell_marked]
    match i, hx with
    | 0, hx => simp at hx; subst hx; rfl
    | 1, hx => simp at hx; subst hx; rfl⟩⟩ 2)
  rw [h1, h2] at hcv
  exact hcv

theorem bs_cat (a b : List UInt8) : bs a ++ bs b = bs (a ++ b) := by
  apply ByteArray.ext; rw [ByteArray.data_append]; simp [bs]

end Go.Proofs.Ytfiielibnnodkaa

/-! ## Digits -/
namespace Go.Proofs.Ytfiielibnnodkaa
open Go.RowKit
set_option linter.unusedVariables false

theorem conv_up {w' : World} {b k c : Nat} (h : c + k < 256) (hb : b < w'.heap.size) (hc : w'.cell? ⟨b, 0, none⟩ = some (.int .u8 ((c : Int) + (k : Int)))) : (convert 22 9 (.slice (some ⟨b, 0, none⟩) 1 1)).run Try.prog w' = .ok (.string (bs [UInt8.ofNat (c + k)])) w' := by
  have hz : zi (UInt8.ofNat (c + k)) = (c : Int) + (k : Int) := by
    unfold zi
    have : (UInt8.ofNat (c + k)).toNat = c + k := by simp; omega
    rw [this]; omega
  refine BytesAt.str (A := some ⟨b, 0, none⟩) (n := 1) (l := [UInt8.ofNat (c + k)]) ⟨rfl, fun _ => ⟨_, _, rfl, hb, fun i z hx => ?_⟩⟩ 1
  match i, hx with
  | 0, hx =>
    injection hx with hx
    rw [← hx, hz]
    exact hc

set_option maxRecDepth 100000 in
set_option maxHeartbeats 1000000 in
theorem digits_any (n : Nat) (hn : n ≤ 1000000) : ∀ w : World, Calls Try.prog 29 #[.int .i64 (n : Int)] w fun e w' => e = .returned (.string (bs (digs n))) ∧ Below w.heap.size w w' := by
  induction n using Nat.strongRecOn with
  | ind n ih =>
    intro w
    have h0 : ¬ (n : Int) < 0 := by omega
    by_cases hs : n < 10
    · have hsi : (n : Int) < 10 := by omega
      have h8 : IntKind.u8.wrap (48 + (n : Int)) = 48 + (n : Int) := by simp [IntKind.wrap, IntKind.bits, IntKind.signed]; omega
      have hcv : (convert 22 9 (.slice (some ⟨w.heap.size, 0, none⟩) 1 1)).run Try.prog (w.alloc (.cells #[.int .u8 (48 + (n : Int))] 5)) = .ok (.string (bs [UInt8.ofNat (48 + n)])) (w.alloc (.cells #[.int .u8 (48 + (n : Int))] 5)) := run_conv1 w n 48 (by omega)
      rw [digs_one hs]
      obtain ⟨S, hS⟩ : ∃ S, S = bs [UInt8.ofNat (48 + n)] := ⟨_, rfl⟩
      rw [← hS] at hcv ⊢
      clear ih hS
      go_enter Try.func29, Try.ntmps29
      go_wp2
      go_ret
      exact ⟨rfl, (Below.refl _ _).alloc (Nat.le_refl _) _⟩
    · have hsi : ¬ (n : Int) < 10 := by omega
      obtain ⟨q, hq⟩ : ∃ q, q = n / 10 := ⟨_, rfl⟩
      obtain ⟨d, hd⟩ : ∃ d, d = n % 10 := ⟨_, rfl⟩
      have hqi : (n : Int) / 10 = (q : Int) := by omega
      have hdi : (n : Int) % 10 = (d : Int) := by omega
      have h8 : IntKind.u8.wrap (48 + (d : Int)) = 48 + (d : Int) := by simp [IntKind.wrap, IntKind.bits, IntKind.signed]; omega
      have hqw : IntKind.i64.wrap (q : Int) = (q : Int) := by simp [IntKind.wrap, IntKind.bits, IntKind.signed]; omega
      have htm : (n : Int).tmod 10 = (d : Int) := by rw [Int.tmod_eq_emod_of_nonneg (by omega)]; omega
      have h64 : IntKind.i64.wrap (48 + (d : Int)) = 48 + (d : Int) := by simp [IntKind.wrap, IntKind.bits, IntKind.signed]; omega
      have ihq := ih q (by omega) (by omega)
      have Hl := (digs_all (n := q) (by omega)).2.2.1
      rw [digs_step (by omega) hs, ← hq, ← hd]
      obtain ⟨S, hS⟩ : ∃ S, S = bs (digs q) := ⟨_, rfl⟩
      obtain ⟨D, hD⟩ : ∃ D, D = bs [UInt8.ofNat (48 + d)] := ⟨_, rfl⟩
      obtain ⟨R, hR⟩ : ∃ R, R = bs (digs q ++ [UInt8.ofNat (48 + d)]) := ⟨_, rfl⟩
      have hcat : S ++ D = R := by rw [hS, hD, hR, bs_cat]
      have hs1 : S.size ≤ 8 := by rw [hS, bs_size]; exact Hl
      have hs2 : D.size = 1 := by rw [hD, bs_size]; rfl
      have hs3 : ¬ 9223372036854775807 < S.size + 1 := by omega
      have hcv : ∀ (W : World) (b : Nat), b < W.heap.size → W.cell? ⟨b, 0, none⟩ = some (.int .u8 (48 + (d : Int))) → (convert 22 9 (.slice (some ⟨b, 0, none⟩) 1 1)).run Try.prog W = .ok (.string D) W := fun W b hb hc => by
        rw [hD]; exact conv_up (c := 48) (k := d) (by omega) hb hc
      rw [← hS] at ihq
      rw [← hR]
      clear hq hd hS hD hR ih Hl
      go_enter Try.func29, Try.ntmps29
      go_upto_region 5 with (fail)
      go_region_law (first | (go_simp; go_at_call 29; refine (ihq _).mono ?_; rintro e w5 ⟨rfl, hb5⟩; have k5 := fun b h => below_cells hb5 b 0 h; have k6 := fun b (h : b < _) => Nat.lt_of_lt_of_le h hb5.size))
      all_goals
        clear k5 k6 hcv ihq
        go_wp2
        go_ret
        first | exact ⟨rfl, (((Below.refl _ w).drew).trans (hb5.mono (by simp; done))).alloc (by have := hb5.size; simp at this; omega) _⟩ | exact ⟨rfl, (((Below.refl _ w).drew).alloc (by simp; done) _).trans (hb5.mono (by simp; done))⟩
end Go.Proofs.Ytfiielibnnodkaa

/-! ## ArcText -/
namespace Go.Proofs.Ytfiielibnnodkaa
open Go.RowKit
set_option linter.unusedVariables false

section
variable {w : World} {ps : List Pl} {ap a2 : Option Addr} {np cp n2 c2 : Nat} {x y : Int}

set_option maxRecDepth 100000 in
set_option maxHeartbeats 1000000 in
theorem rarc_any (hp : PlsAt w (.slice ap np cp) ps) (hnp : np = ps.length) (h0 : 0 ≤ x) (hx : x < np) (h1 : 1 ≤ y) (hy : y ≤ 1000000) (hs : Short ps) :
    Calls Try.prog 30 #[.agg #[.slice ap np cp, .slice a2 n2 c2], .agg #[.int .i64 x, .int .i64 y]] w fun e w' => e = .returned (.string (bs (arcT ps (x, y)))) ∧ Below w.heap.size w w' := by
  obtain ⟨i, rfl⟩ : ∃ i : Nat, x = (i : Int) := ⟨x.toNat, by omega⟩
  obtain ⟨m, rfl⟩ : ∃ m : Nat, y = (m : Int) := ⟨y.toNat, by omega⟩
  have hmx := RowAt.max hp
  obtain ⟨p, hpi⟩ := at_lt (l := ps) (k := i) (by omega)
  obtain ⟨b, off, rfl, hb, e0, e1⟩ := PlsAt.at_ hp hpi
  have hn : plName ps (i : Int) = nb p.name := by unfold plName; rw [List.getD_eq_getElem?_getD, Int.toNat_natCast, hpi]; rfl
  have hsz := hs p (List.mem_of_getElem? hpi)
  have HB := Lib.hid (((Below.refl _ w).alloc (Nat.le_refl _) (.cells #[.slice (some ⟨b, off, none⟩) np cp, .slice a2 n2 c2] 30)).alloc (by simp) (.cells #[.int .i64 (i : Int), .int .i64 (m : Int)] 37))
  unfold arcT optT
  simp only [hn]
  by_cases hm : m = 1
  · subst hm
    have e : bs (nb p.name ++ (if ((1 : Nat) : Int) = 1 then [] else [42] ++ digs ((1 : Nat) : Int).toNat)) = p.name := by rw [if_pos (by omega), List.append_nil, bs_nb]
    rw [e]
    clear hp hpi hs hn e1 hnp e
    go_enter Try.func30, Try.ntmps30
    go_wp2
    go_ret
    exact ⟨rfl, HB.out⟩
  · have hmb : ((m : Int) == 1) = false := by simp; omega
    have hmn : ¬ (m : Int) = 1 := by omega
    obtain ⟨D, hD⟩ : ∃ D, D = bs (digs m) := ⟨_, rfl⟩
    obtain ⟨E, hE⟩ : ∃ E, E = bs ([42] ++ digs m) := ⟨_, rfl⟩
    obtain ⟨R, hR⟩ : ∃ R, R = bs (nb p.name ++ ([42] ++ digs m)) := ⟨_, rfl⟩
    have q1 : ({ data := #[42] } : ByteArray) ++ D = E := by rw [hD, hE, ← bs_cat]; rfl
    have q2 : p.name ++ E = R := by rw [hR, hE, ← bs_cat (nb p.name), bs_nb]
    have hl := (digs_all (n := m) (by omega)).2.2.1
    have s1 : D.size ≤ 8 := by rw [hD, bs_size]; exact hl
    have s2 : E.size ≤ 9 := by rw [hE, bs_size, List.length_append]; simp; omega
    have hdg := digits_any m (by omega) ((w.alloc (.cells #[.slice (some ⟨b, off, none⟩) np cp, .slice a2 n2 c2] 30)).alloc (.cells #[.int .i64 (i : Int), .int .i64 (m : Int)] 37))
    rw [← hD] at hdg
    rw [if_neg hmn, Int.toNat_natCast, ← hR]
    clear hp hpi hs hn e1 hnp hD hE hR hl hm hmn
    go_enter Try.func30, Try.ntmps30
    go_wp2_with fail
    refine hdg.mono ?_
    rintro e w1 ⟨rfl, hb1⟩
    have HB1 := Lib.hid (HB.out.trans (hb1.mono HB.out.size))
    clear hb1 hdg
    go_wp2
    go_ret
    exact ⟨rfl, HB1.out⟩
end
end Go.Proofs.Ytfiielibnnodkaa

/-! ## RText -/
namespace Go.Proofs.Ytfiielibnnodkaa
open Go.RowKit
set_option linter.unusedVariables false

/-- a transition's box above V -/
structure InTr (V wr : World) (nm : ByteArray) (d p : Int) (v1 v2 v3 : Value) : Prop where
  below : Below (V.heap.size + 1) (V.alloc (.cells #[.string nm, .int .i64 d, .int .i64 p, v1, v2, v3] 40)) wr
section
variable {V wr w' : World} {nm : ByteArray} {d p : Int} {v1 v2 v3 : Value}
theorem InTr.start (V : World) (nm : ByteArray) (d p : Int) (v1 v2 v3 : Value) : InTr V (V.alloc (.cells #[.string nm, .int .i64 d, .int .i64 p, v1, v2, v3] 40)) nm d p v1 v2 v3 := ⟨Below.refl _ _⟩
theorem InTr.old (h : InTr V wr nm d p v1 v2 v3) : Below V.heap.size V wr := ((Below.refl _ V).alloc (Nat.le_refl _) _).trans (h.below.mono (by omega))
theorem InTr.size (h : InTr V wr nm d p v1 v2 v3) : V.heap.size < wr.heap.size := by have := h.below.size; simp at this; omega
theorem InTr.go (h : InTr V wr nm d p v1 v2 v3) (hb : Below wr.heap.size wr w') : InTr V w' nm d p v1 v2 v3 := ⟨h.below.trans (hb.mono (by have := h.below.size; simp at this; omega))⟩
theorem InTr.c0 (h : InTr V wr nm d p v1 v2 v3) : wr.cell? ⟨V.heap.size, 0, none⟩ = some (.string nm) := (h.below.cell (p := ⟨V.heap.size, 0, none⟩) (by simp)).trans (by go_simp)
theorem InTr.c1 (h : InTr V wr nm d p v1 v2 v3) : wr.cell? ⟨V.heap.size, 1, none⟩ = some (.int .i64 d) := (h.below.cell (p := ⟨V.heap.size, 1, none⟩) (by simp)).trans (by go_simp)
theorem InTr.c2 (h : InTr V wr nm d p v1 v2 v3) : wr.cell? ⟨V.heap.size, 2, none⟩ = some (.int .i64 p) := (h.below.cell (p := ⟨V.heap.size, 2, none⟩) (by simp)).trans (by go_simp)
theorem InTr.c3 (h : InTr V wr nm d p v1 v2 v3) : wr.cell? ⟨V.heap.size, 3, none⟩ = some v1 := (h.below.cell (p := ⟨V.heap.size, 3, none⟩) (by simp)).trans (by go_simp)
theorem InTr.c4 (h : InTr V wr nm d p v1 v2 v3) : wr.cell? ⟨V.heap.size, 4, none⟩ = some v2 := (h.below.cell (p := ⟨V.heap.size, 4, none⟩) (by simp)).trans (by go_simp)
theorem InTr.c5 (h : InTr V wr nm d p v1 v2 v3) : wr.cell? ⟨V.heap.size, 5, none⟩ = some v3 := (h.below.cell (p := ⟨V.heap.size, 5, none⟩) (by simp)).trans (by go_simp)
end

/-- what a net that may be keeps to -/
structure Fits (n : Nt) : Prop where
  pl : n.places.length ≤ 32
  tr : n.trans.length ≤ 32
  short : Short n.places
  tok : ∀ p ∈ n.places, 0 ≤ p.tok ∧ p.tok ≤ 1000000
  trs : ∀ t ∈ n.trans, t.name.size ≤ 12 ∧ (0 ≤ t.delay ∧ t.delay ≤ 1000000) ∧ (0 ≤ t.prio ∧ t.prio ≤ 1000000) ∧ t.inn.length ≤ 8 ∧ t.nt.length ≤ 8 ∧ t.out.length ≤ 8
  arc : ∀ t ∈ n.trans, ∀ a, a ∈ t.inn ∨ a ∈ t.nt ∨ a ∈ t.out → 0 ≤ a.1 ∧ a.1 < n.places.length ∧ 1 ≤ a.2 ∧ a.2 ≤ 1000000
theorem NetOk.fits {n : Nt} (h : NetOk n.places.length n) : Fits n := by
  have hnm : ∀ s ∈ n.names, s.size ≤ 12 := fun s hs => by
    have := h.nm s hs
    simp only [nameB, Bool.and_eq_true, decide_eq_true_eq] at this
    exact this.2
  refine ⟨h.pl, h.tr, fun p hp => hnm _ (by simp only [Nt.names, List.mem_append, List.mem_map]; exact .inl ⟨p, hp, rfl⟩), fun p hp => ?_, fun t ht => ?_, fun t ht a ha => ?_⟩
  · have := h.tok p hp
    simpa only [numB, Bool.and_eq_true, decide_eq_true_eq] using this
  · obtain ⟨a, b, c, d, e⟩ := h.trs t ht
    simp only [numB, Bool.and_eq_true, decide_eq_true_eq] at a b
    exact ⟨hnm _ (by simp only [Nt.names, List.mem_append, List.mem_map]; exact .inr ⟨t, ht, rfl⟩), a, b, c.len, d.len, e.len⟩
  · obtain ⟨_, _, c, d, e⟩ := h.trs t ht
    have key : ∀ l, ArcsOk n.places.length l → a ∈ l → 0 ≤ a.1 ∧ a.1 < n.places.length ∧ 1 ≤ a.2 ∧ a.2 ≤ 1000000 := fun l hl hx => by
      have := (arcsErr_parts l [] hl.err).1 a hx
      simp only [numB, inP, Bool.and_eq_true, decide_eq_true_eq] at this
      omega
    rcases ha with ha | ha | ha
    · exact key _ c ha
    · exact key _ d ha
    · exact key _ e ha

theorem cat_eq {a b c : List UInt8} (h : a ++ b = c) : bs a ++ bs b = bs c := by rw [bs_cat, h]
theorem arcsT_bd {ps : List Pl} (h : Short ps) {mark : List UInt8} (hm : mark.length ≤ 1) {l : List (Int × Int)} (h8 : l.length ≤ 8) (hl : ∀ a ∈ l, a.2 ≤ 1000000) (k : Nat) (sep : List UInt8) (hs : sep.length ≤ 2) : (arcsT ps mark sep (l.take k)).length ≤ 192 := by
  have h1 := arcsT_len h hm (l.take k) (fun a ha => hl a (List.mem_of_mem_take ha)) sep hs
  have h2 : (l.take k).length ≤ 8 := by rw [List.length_take]; omega
  omega
theorem sepT_bd {sep : List UInt8} (hs : sep.length ≤ 2) (l : List (Int × Int)) : (sepT sep l).length ≤ 2 := by unfold sepT; split <;> simp [hs]
theorem flat_bd {α : Type} (f : α → List UInt8) (m : Nat) (l : List α) (h : ∀ a ∈ l, (f a).length ≤ m) (k : Nat) : ((l.take k).flatMap f).length ≤ k * m := by
  induction l generalizing k with
  | nil => simp
  | cons a l ih =>
    cases k with
    | zero => simp
    | succ k =>
      have h1 := ih (fun x hx => h x (by simp [hx])) k
      have h2 := h a (by simp)
      rw [List.take_succ_cons, List.flatMap_cons, List.length_append, Nat.succ_mul]
      omega
theorem Fits.transT_len {n : Nt} (h : Fits n) {t : Tr} (ht : t ∈ n.trans) : (transT n.places t).length ≤ 700 := by
  obtain ⟨h1, h2, h3, h4, h5, h6⟩ := h.trs t ht
  have a0 := headT_len h1 h2.2 h3.2
  have a1 := arcsT_len h.short (mark := []) (by simp) t.inn (fun a ha => (h.arc t ht a (.inl ha)).2.2.2) [32] (by simp)
  have a2 := arcsT_len h.short (mark := [126]) (by simp) t.nt (fun a ha => (h.arc t ht a (.inr (.inl ha))).2.2.2) (sepT [32] t.inn) (by unfold sepT; split <;> simp)
  have a3 := arcsT_len h.short (mark := []) (by simp) t.out (fun a ha => (h.arc t ht a (.inr (.inr ha))).2.2.2) [32] (by simp)
  unfold transT
  simp only [List.length_append, List.length_cons, List.length_nil]
  omega
theorem Fits.text_len {n : Nt} (h : Fits n) : (textN n).length ≤ 30000 := by
  have h1 := flat_bd placeT 40 n.places (fun p hp => placeT_len (h.short p hp) (h.tok p hp).2) n.places.length
  have h2 := flat_bd (transT n.places) 700 n.trans (fun t ht => h.transT_len ht) n.trans.length
  rw [List.take_length] at h1 h2
  have := h.pl
  have := h.tr
  unfold textN
  rw [List.length_append]
  omega

section
variable {w : World} {n : Nt} {ap at_ : Option Addr} {np nt cp ct : Nat}

set_option maxRecDepth 100000 in
set_option maxHeartbeats 8000000 in
theorem rtext_any (hnp : np = n.places.length) (hnt : nt = n.trans.length) (h : NetAt w (.slice ap np cp) (.slice at_ nt ct) n) (hN : NetOk n.places.length n) :
    Calls Try.prog 16 #[.agg #[.slice ap np cp, .slice at_ nt ct]] w fun e w' => e = .returned (.string (bs (textN n))) ∧ Below w.heap.size w w' := by
  have HF := Lib.hid hN.fits
  obtain ⟨R, hR⟩ : ∃ R, R = bs (textN n) := ⟨_, rfl⟩
  rw [← hR]
  have HR := Lib.hid hR
  have Hnp := Lib.hid hnp
  have Hnt := Lib.hid hnt
  have hnp32 : np ≤ 32 := by have := HF.out.pl; omega
  have hnt32 : nt ≤ 32 := by have := HF.out.tr; omega
  obtain ⟨hpl, tl, htl, htr⟩ := h
  have HP := Lib.hid hpl
  have HT := Lib.hid htr
  have Htl := Lib.hid htl
  have Hi0 := Lib.hid (InBox.start w (.slice ap np cp) (.slice at_ nt ct))
  have Hlen : Hid (∀ k, ((n.places.take k).flatMap placeT).length ≤ k * 40) := Lib.hid (fun k => flat_bd placeT 40 n.places (fun p hp => placeT_len (HF.out.short p hp) (HF.out.tok p hp).2) k)
  have HlenT : Hid (∀ k, ((n.trans.take k).flatMap (transT n.places)).length ≤ k * 700) := Lib.hid (fun k => flat_bd (transT n.places) 700 n.trans (fun t ht => HF.out.transT_len ht) k)
  clear hnp hnt hpl htr htl hN hR
  go_enter Try.func16, Try.ntmps16
  go_wp2
  go_loopw [3, 4] (fun s i wr => ∃ k : Nat, k ≤ np ∧ i = .int .i64 k ∧ InBox w wr (.slice ap np cp) (.slice at_ nt ct) ∧ ∃ S, s = .string S ∧ Hid (S = bs ((n.places.take k).flatMap placeT))) (fun _ i _ => np - (intOf i).toNat)
  case atStart => exact ⟨0, by omega, rfl, Hi0.out, _, rfl, Lib.hid rfl⟩
  case round =>
    rename World => v1
    obtain ⟨k, hk, rfl, hin, S, rfl, HS⟩ := hrel
    have b0 := hin.c0
    have b1 := hin.c1
    have blt := hin.size
    have hSs : S.size ≤ 1280 := by rw [HS.out, bs_size]; have := Hlen.out k; omega
    have Hin := Lib.hid hin
    by_cases hlt : k < np
    · have hlti : (k : Int) < (np : Int) := by omega
      obtain ⟨x, hx⟩ := at_lt (l := n.places) (k := k) (by rw [← Hnp.out]; exact hlt)
      obtain ⟨b, off, rfl, hb, e0, e1⟩ := PlsAt.at_ (HP.out.below hin.old) hx
      have hxm := List.mem_of_getElem? hx
      have hxs := HF.out.short x hxm
      obtain ⟨ht0, ht1⟩ := HF.out.tok x hxm
      have Hst : Hid ((n.places.take (k + 1)).flatMap placeT = (n.places.take k).flatMap placeT ++ placeT x) := Lib.hid (flat_snoc placeT hx)
      obtain ⟨nm, hnm⟩ : ∃ nm, nm = x.name := ⟨_, rfl⟩
      obtain ⟨tk, htk⟩ : ∃ tk, tk = x.tok := ⟨_, rfl⟩
      rw [← hnm] at e0 hxs
      rw [← htk] at e1 ht0 ht1
      obtain ⟨z1, hz1⟩ : ∃ z, z = bs ([112, 108, 97, 99, 101, 32] ++ nb nm) := ⟨_, rfl⟩
      obtain ⟨z2, hz2⟩ : ∃ z, z = bs ((n.places.take k).flatMap placeT ++ ([112, 108, 97, 99, 101, 32] ++ nb nm)) := ⟨_, rfl⟩
      obtain ⟨S2, hS2⟩ : ∃ z, z = bs ((n.places.take (k + 1)).flatMap placeT) := ⟨_, rfl⟩
      have q1 : ({ data := #[112, 108, 97, 99, 101, 32] } : ByteArray) ++ nm = z1 := by rw [hz1, ← bs_cat, bs_nb]; rfl
      have q2 : S ++ z1 = z2 := by rw [HS.out, hz1, hz2, bs_cat]
      have s1 : z1.size ≤ 18 := by rw [hz1, bs_size, List.length_append, nb_len]; simp; omega
      have s2 : z2.size ≤ 1300 := by rw [← q2, ByteArray.size_append]; omega
      have HS2 := Lib.hid hS2
      have hpt : placeT x = ([112, 108, 97, 99, 101, 32] ++ nb nm) ++ (optT [32, 61, 32] 0 tk ++ [59, 10]) := by unfold placeT; rw [← hnm, ← htk]; simp
      by_cases hz : tk = 0
      · have hzb : (tk == 0) = true := by simpa using hz
        have q5 : z2 ++ { data := #[59, 10] } = S2 := by
          rw [hz2, hS2, Hst.out, hpt]
          exact cat_eq (b := [59, 10]) (by simp [optT, hz])
        clear hx hin hxm hnm htk hz1 hz2 hS2 hpt hz Hst ht0 ht1
        go_wp2
        go_roundw
        case rel => exact ⟨k + 1, by omega, by go_num, Hin.out, S2, rfl, HS2⟩
        case measure => simp [intOf]; omega
      · have hzb : (tk == 0) = false := by simpa using hz
        obtain ⟨m, rfl⟩ : ∃ m : Nat, tk = (m : Int) := ⟨tk.toNat, by omega⟩
        obtain ⟨D, hD⟩ : ∃ D, D = bs (digs m) := ⟨_, rfl⟩
        obtain ⟨E, hE⟩ : ∃ E, E = bs ([32, 61, 32] ++ digs m) := ⟨_, rfl⟩
        obtain ⟨z4, hz4⟩ : ∃ z, z = bs ((n.places.take k).flatMap placeT ++ ([112, 108, 97, 99, 101, 32] ++ nb nm) ++ ([32, 61, 32] ++ digs m)) := ⟨_, rfl⟩
        have q3 : ({ data := #[32, 61, 32] } : ByteArray) ++ D = E := by rw [hD, hE, ← bs_cat]; rfl
        have q4 : z2 ++ E = z4 := by rw [hz2, hE, hz4, bs_cat]
        have hl := (digs_all (n := m) (by omega)).2.2.1
        have s3 : D.size ≤ 8 := by rw [hD, bs_size]; exact hl
        have s4 : E.size ≤ 11 := by rw [hE, bs_size, List.length_append]; simp; omega
        have s5 : z4.size ≤ 1311 := by rw [← q4, ByteArray.size_append]; omega
        have q5 : z4 ++ { data := #[59, 10] } = S2 := by
          rw [hz4, hS2, Hst.out, hpt, show optT [32, 61, 32] 0 (m : Int) = [32, 61, 32] ++ digs m by unfold optT; rw [if_neg hz, Int.toNat_natCast]]
          exact cat_eq (b := [59, 10]) (by simp)
        have hdg := digits_any m (by omega) v1
        rw [← hD] at hdg
        clear hx hin hxm hnm htk hz1 hz2 hS2 hpt hz Hst ht0 hD hE hz4 hl
        go_wp2_with fail
        refine hdg.mono ?_
        rintro e w5 ⟨rfl, hb5⟩
        have Hin5 := Lib.hid (Hin.out.go hb5)
        clear hb5 hdg
        go_wp2
        go_roundw
        case rel => exact ⟨k + 1, by omega, by go_num, Hin5.out, S2, rfl, HS2⟩
        case measure => simp [intOf]; omega
    · have hge : ¬ (k : Int) < (np : Int) := by omega
      obtain rfl : np = k := by omega
      have HSP : Hid (S = bs (n.places.flatMap placeT)) := Lib.hid (by rw [HS.out, Hnp.out, List.take_length])
      clear hin HS
      go_wp2
      clear b0 b1 blt
      go_loopw [3, 5] (fun s i wr => ∃ k : Nat, k ≤ nt ∧ i = .int .i64 k ∧ InBox w wr (.slice ap np cp) (.slice at_ nt ct) ∧ ∃ S, s = .string S ∧ Hid (S = bs (n.places.flatMap placeT ++ (n.trans.take k).flatMap (transT n.places)))) (fun _ i _ => nt - (intOf i).toNat)
      case atStart => exact ⟨0, by omega, rfl, Hin.out, _, rfl, Lib.hid (by rw [HSP.out]; simp)⟩
      case round =>
        rename World => v2
        obtain ⟨j, hj, rfl, hin2, S0, rfl, HS0⟩ := hrel
        have b0 := hin2.c0
        have b1 := hin2.c1
        have blt := hin2.size
        have hSs0 : S0.size ≤ 23680 := by
          rw [HS0.out, bs_size, List.length_append]
          have h1 := HlenT.out j
          have h2 := Hlen.out np
          rw [Hnp.out, List.take_length, ← Hnp.out] at h2
          omega
        have Hin2 := Lib.hid hin2
        by_cases hlt2 : j < nt
        · have hlti2 : (j : Int) < (nt : Int) := by omega
          obtain ⟨t, ht⟩ := at_lt (l := n.trans) (k := j) (by rw [← Hnt.out]; exact hlt2)
          obtain ⟨bt, offt, a1, c1, a2, c2, a3, c3, e, hbt, t0, t1, t2, t3, t4, t5, g1, g2, g3⟩ := TrsAt.at_ (HT.out.below hin2.old) (by rw [Htl.out]; exact ht)
          subst e
          have htm := List.mem_of_getElem? ht
          obtain ⟨f1, f2, f3, f4, f5, f6⟩ := HF.out.trs t htm
          have Hst : Hid (n.places.flatMap placeT ++ (n.trans.take (j + 1)).flatMap (transT n.places) = n.places.flatMap placeT ++ (n.trans.take j).flatMap (transT n.places) ++ transT n.places t) := Lib.hid (by rw [flat_snoc (transT n.places) ht]; simp)
          obtain ⟨B0, hB0⟩ : ∃ B, B = n.places.flatMap placeT ++ (n.trans.take j).flatMap (transT n.places) := ⟨_, rfl⟩
          rw [← hB0] at HS0 Hst
          have Harc : Hid (∀ a, a ∈ t.inn ∨ a ∈ t.nt ∨ a ∈ t.out → 0 ≤ a.1 ∧ a.1 < n.places.length ∧ 1 ≤ a.2 ∧ a.2 ≤ 1000000) := Lib.hid (HF.out.arc t htm)
          obtain ⟨l1, hl1⟩ : ∃ l, l = t.inn := ⟨_, rfl⟩
          obtain ⟨l2, hl2⟩ : ∃ l, l = t.nt := ⟨_, rfl⟩
          obtain ⟨l3, hl3⟩ : ∃ l, l = t.out := ⟨_, rfl⟩
          obtain ⟨nm, hnm⟩ : ∃ nm, nm = t.name := ⟨_, rfl⟩
          obtain ⟨dl, hdl⟩ : ∃ nm, nm = t.delay := ⟨_, rfl⟩
          obtain ⟨pr, hpr⟩ : ∃ nm, nm = t.prio := ⟨_, rfl⟩
          have Htt : Hid (transT n.places t = ([116, 114, 97, 110, 115, 32] ++ nb nm) ++ optT [32, 64] 0 dl ++ optT [32, 33] 0 pr ++ [58] ++ arcsT n.places [] [32] l1 ++ arcsT n.places [126] (sepT [32] l1) l2 ++ [32, 45, 62] ++ arcsT n.places [] [32] l3 ++ [59, 10]) := Lib.hid (by unfold transT headT; rw [hl1, hl2, hl3, hnm, hdl, hpr])
          rw [← hl1] at t3 g1 f4 Harc
          rw [← hl2] at t4 g2 f5 Harc
          rw [← hl3] at t5 g3 f6 Harc
          rw [← hnm] at t0 f1
          rw [← hdl] at t1 f2
          rw [← hpr] at t2 f3
          obtain ⟨m1, hm1⟩ : ∃ m, m = l1.length := ⟨_, rfl⟩
          obtain ⟨m2, hm2⟩ : ∃ m, m = l2.length := ⟨_, rfl⟩
          obtain ⟨m3, hm3⟩ : ∃ m, m = l3.length := ⟨_, rfl⟩
          rw [← hm1] at t3 f4 g1
          rw [← hm2] at t4 f5 g2
          rw [← hm3] at t5 f6 g3
          have Hm1 := Lib.hid hm1
          have Hm2 := Lib.hid hm2
          have Hm3 := Lib.hid hm3
          have G1 := Lib.hid g1
          have G2 := Lib.hid g2
          have G3 := Lib.hid g3
          have HShort := Lib.hid HF.out.short
          obtain ⟨z1, hz1⟩ : ∃ z, z = bs ([116, 114, 97, 110, 115, 32] ++ nb nm) := ⟨_, rfl⟩
          obtain ⟨z2, hz2⟩ : ∃ z, z = bs (B0 ++ ([116, 114, 97, 110, 115, 32] ++ nb nm)) := ⟨_, rfl⟩
          have q1 : ({ data := #[116, 114, 97, 110, 115, 32] } : ByteArray) ++ nm = z1 := by rw [hz1, ← bs_cat, bs_nb]; rfl
          have q2 : S0 ++ z1 = z2 := by rw [HS0.out, hz1, hz2, bs_cat]
          have s1 : z1.size ≤ 18 := by rw [hz1, bs_size, List.length_append, nb_len]; simp; omega
          have s2 : z2.size ≤ 23700 := by rw [← q2, ByteArray.size_append]; omega
          obtain ⟨z3, hz3⟩ : ∃ z, z = bs (B0 ++ ([116, 114, 97, 110, 115, 32] ++ nb nm) ++ optT [32, 64] 0 dl) := ⟨_, rfl⟩
          obtain ⟨z4, hz4⟩ : ∃ z, z = bs (B0 ++ ([116, 114, 97, 110, 115, 32] ++ nb nm) ++ optT [32, 64] 0 dl ++ optT [32, 33] 0 pr) := ⟨_, rfl⟩
          have o1 := optT_len (s := [32, 64]) (d := 0) f2.2
          have o2 := optT_len (s := [32, 33]) (d := 0) f3.2
          have s3 : z3.size ≤ 23720 := by rw [hz3, bs_size, List.length_append, ← bs_size (B0 ++ _), ← hz2]; simp at o1; omega
          have s4 : z4.size ≤ 23740 := by rw [hz4, bs_size, List.length_append, ← bs_size (B0 ++ _ ++ _), ← hz3]; simp at o2; omega
          have HT0 := Lib.hid (InTr.start v2 nm dl pr (.slice a1 m1 c1) (.slice a2 m2 c2) (.slice a3 m3 c3))
          have Hz2 := Lib.hid hz2
          have Hz3 := Lib.hid hz3
          have Hz4 := Lib.hid hz4
          have HB0 := Lib.hid hB0
          clear ht hin2 htm hB0 hl1 hl2 hl3 hnm hdl hpr hm1 hm2 hm3 g1 g2 g3 hz1 hz2 hz3 hz4 o1 o2
          go_upto_if 65 with (fail)
          go_cut [3] from 46 to 141 (fun s3 wc => s3 = .string z3 ∧ InTr v2 wc nm dl pr (.slice a1 m1 c1) (.slice a2 m2 c2) (.slice a3 m3 c3))
          case first =>
            by_cases hz : dl = 0
            · have hzb : (dl == 0) = true := by simpa using hz
              have Hq : Hid (z2 = z3) := Lib.hid (by rw [Hz2.out, Hz3.out, show optT [32, 64] 0 dl = [] from if_pos hz]; simp)
              clear hz
              go_wp2
              go_meet
              case rel => exact ⟨by rw [Hq.out], HT0.out⟩
            · have hzb : (dl == 0) = false := by simpa using hz
              obtain ⟨m, rfl⟩ : ∃ m : Nat, dl = (m : Int) := ⟨dl.toNat, by omega⟩
              obtain ⟨D, hD⟩ : ∃ D, D = bs (digs m) := ⟨_, rfl⟩
              obtain ⟨E, hE⟩ : ∃ E, E = bs ([32, 64] ++ digs m) := ⟨_, rfl⟩
              have q3 : ({ data := #[32, 64] } : ByteArray) ++ D = E := by rw [hD, hE, ← bs_cat]; rfl
              have q4 : z2 ++ E = z3 := by rw [Hz2.out, hE, Hz3.out, bs_cat, show optT [32, 64] 0 (m : Int) = [32, 64] ++ digs m by unfold optT; rw [if_neg hz, Int.toNat_natCast]]
              have hl := (digs_all (n := m) (by omega)).2.2.1
              have s5 : D.size ≤ 8 := by rw [hD, bs_size]; exact hl
              have s6 : E.size ≤ 10 := by rw [hE, bs_size, List.length_append]; simp; omega
              have hdg := digits_any m (by omega) (v2.alloc (.cells #[.string nm, .int .i64 (m : Int), .int .i64 pr, .slice a1 m1 c1, .slice a2 m2 c2, .slice a3 m3 c3] 40))
              rw [← hD] at hdg
              clear hD hE hl hz
              go_wp2_with fail
              refine hdg.mono ?_
              rintro e w5 ⟨rfl, hb5⟩
              have HT5 := Lib.hid (HT0.out.go hb5)
              clear hb5 hdg
              go_wp2
              go_meet
              case rel => exact ⟨rfl, HT5.out⟩
          case rest =>
            obtain ⟨rfl, hT1⟩ := hcut
            rename World => v3
            have k2 := hT1.c2
            have klt := hT1.size
            have HT1 := Lib.hid hT1
            clear hT1 HT0
            go_upto_if 74 with (fail)
            go_cut [3] from 46 to 141 (fun s3 wc => s3 = .string z4 ∧ InTr v2 wc nm dl pr (.slice a1 m1 c1) (.slice a2 m2 c2) (.slice a3 m3 c3))
            case first =>
              by_cases hz : pr = 0
              · have hzb : (pr == 0) = true := by simpa using hz
                have Hq : Hid (z3 = z4) := Lib.hid (by rw [Hz3.out, Hz4.out, show optT [32, 33] 0 pr = [] from if_pos hz]; simp)
                clear hz
                go_wp2
                go_meet
                case rel => exact ⟨by rw [Hq.out], HT1.out⟩
              · have hzb : (pr == 0) = false := by simpa using hz
                obtain ⟨m, rfl⟩ : ∃ m : Nat, pr = (m : Int) := ⟨pr.toNat, by omega⟩
                obtain ⟨D, hD⟩ : ∃ D, D = bs (digs m) := ⟨_, rfl⟩
                obtain ⟨E, hE⟩ : ∃ E, E = bs ([32, 33] ++ digs m) := ⟨_, rfl⟩
                have q3 : ({ data := #[32, 33] } : ByteArray) ++ D = E := by rw [hD, hE, ← bs_cat]; rfl
                have q4 : z3 ++ E = z4 := by rw [Hz3.out, hE, Hz4.out, bs_cat, show optT [32, 33] 0 (m : Int) = [32, 33] ++ digs m by unfold optT; rw [if_neg hz, Int.toNat_natCast]]
                have hl := (digs_all (n := m) (by omega)).2.2.1
                have s5 : D.size ≤ 8 := by rw [hD, bs_size]; exact hl
                have s6 : E.size ≤ 10 := by rw [hE, bs_size, List.length_append]; simp; omega
                have hdg := digits_any m (by omega) v3
                rw [← hD] at hdg
                clear hD hE hl hz
                go_wp2_with fail
                refine hdg.mono ?_
                rintro e w5 ⟨rfl, hb5⟩
                have HT5 := Lib.hid (HT1.out.go hb5)
                clear hb5 hdg
                go_wp2
                go_meet
                case rel => exact ⟨rfl, HT5.out⟩
            case rest =>
              obtain ⟨rfl, hT2⟩ := hcut
              rename World => v4
              clear k2 klt HT1
              obtain ⟨P5, hP5⟩ : ∃ P, P = B0 ++ ([116, 114, 97, 110, 115, 32] ++ nb nm) ++ optT [32, 64] 0 dl ++ optT [32, 33] 0 pr ++ [58] := ⟨_, rfl⟩
              obtain ⟨z5, hz5⟩ : ∃ z, z = bs P5 := ⟨_, rfl⟩
              have q5 : z4 ++ { data := #[58] } = z5 := by rw [Hz4.out, hz5, hP5]; exact cat_eq (b := [58]) rfl
              have HPl1 : Hid (P5.length ≤ 23741) := Lib.hid (by
                have e := congrArg ByteArray.size q5
                rw [ByteArray.size_append, hz5, bs_size] at e
                rw [← e]
                show z4.size + 1 ≤ _
                omega)
              have HSa1 := Lib.hid hz5
              have HP5 := Lib.hid hP5
              have HTa1 := Lib.hid hT2
              clear hT2 hz5 hP5
              go_wp2
              go_loopw [3, 7, 8] (fun s sp i wr => ∃ k : Nat, k ≤ m1 ∧ i = .int .i64 k ∧ InTr v2 wr nm dl pr (.slice a1 m1 c1) (.slice a2 m2 c2) (.slice a3 m3 c3) ∧ (∃ S, s = .string S ∧ Hid (S = bs (P5 ++ arcsT n.places [] [32] (l1.take k)))) ∧ ∃ E, sp = .string E ∧ Hid (E = bs (sepT [32] (l1.take k)))) (fun _ _ i _ => m1 - (intOf i).toNat)
              case atStart => exact ⟨0, by omega, rfl, HTa1.out, ⟨_, rfl, Lib.hid (by rw [HSa1.out]; simp [arcsT])⟩, _, rfl, Lib.hid rfl⟩
              case round =>
                rename World => x1
                obtain ⟨k, hk, rfl, hT, ⟨S, rfl, HS⟩, E, rfl, HE⟩ := hrel
                have k3 := hT.c3
                have klt := hT.size
                have hSs : S.size ≤ 23741 + 192 := by
                  rw [HS.out, bs_size, List.length_append]
                  have h1 := arcsT_bd HShort.out (mark := []) (by simp) (by rw [← Hm1.out]; exact f4) (fun a ha => (Harc.out a (.inl ha)).2.2.2) k [32] (by simp)
                  have h2 := HPl1.out
                  omega
                have hEs : E.size ≤ 2 := by rw [HE.out, bs_size]; exact sepT_bd (by simp) _
                have HT_ := Lib.hid hT
                by_cases hlt3 : k < m1
                · have hlti3 : (k : Int) < (m1 : Int) := by omega
                  obtain ⟨⟨x, y⟩, hx⟩ := at_lt (l := l1) (k := k) (by rw [← Hm1.out]; exact hlt3)
                  obtain ⟨b, off, rfl, hb, e0, e1⟩ := ArcsAt.at_ (G1.out.below hT.old) hx
                  obtain ⟨r1, r2, r3, r4⟩ := Harc.out (x, y) (.inl (List.mem_of_getElem? hx))
                  simp only at r1 r2 r3 r4
                  have hbx := Hin2.out.go hT.old
                  have b0' := hbx.c0
                  have b1' := hbx.c1
                  have blt' := hbx.size
                  obtain ⟨A, hA⟩ : ∃ A, A = bs (arcT n.places (x, y)) := ⟨_, rfl⟩
                  have K1 : Hid (∀ p : NewBy x1, Calls Try.prog 30 #[.agg #[.slice ap np cp, .slice (some ⟨bt, offt, none⟩) nt ct], .agg #[.int .i64 x, .int .i64 y]] p.to fun e w' => e = .returned (.string A) ∧ Below p.to.heap.size p.to w') := Lib.hid (fun p => by
                    have := rarc_any (a2 := some ⟨bt, offt, none⟩) (n2 := nt) (c2 := ct) ((HP.out.below hbx.old).below p.below) Hnp.out r1 (by rw [Hnp.out]; exact r2) r3 r4 HShort.out
                    rw [hA]; exact this)
                  have sA : A.size ≤ 21 := by rw [hA, bs_size]; exact arcT_len HShort.out r4
                  have m0 := fun p : NewBy x1 => NewBy.cell blt' b0' p
                  have m1_ := fun p : NewBy x1 => NewBy.cell blt' b1' p
                  have m2_ := fun p : NewBy x1 => NewBy.cell klt k3 p
                  have m3_ := fun p : NewBy x1 => NewBy.cell hb e0 p
                  have m4_ := fun p : NewBy x1 => NewBy.cell hb e1 p
                  have ml0 := fun p : NewBy x1 => Nat.lt_of_lt_of_le blt' p.below.size
                  have ml1 := fun p : NewBy x1 => Nat.lt_of_lt_of_le klt p.below.size
                  have ml2 := fun p : NewBy x1 => Nat.lt_of_lt_of_le hb p.below.size
                  obtain ⟨ez, hez⟩ : ∃ z, z = bs (sepT [32] (l1.take k) ++ []) := ⟨_, rfl⟩
                  obtain rfl : ez = E := by rw [HE.out, hez]; simp
                  have sE : ez.size ≤ 3 := by omega
                  obtain ⟨z1, hz1⟩ : ∃ z, z = bs (sepT [32] (l1.take k) ++ [] ++ arcT n.places (x, y)) := ⟨_, rfl⟩
                  obtain ⟨S2, hS2⟩ : ∃ z, z = bs (P5 ++ arcsT n.places [] [32] (l1.take (k + 1))) := ⟨_, rfl⟩
                  have q3 : ez ++ A = z1 := by rw [hez, hA, hz1, bs_cat]
                  have q4 : S ++ z1 = S2 := by rw [HS.out, hz1, hS2, take_at hx, arcsT_snoc]; exact cat_eq (by simp)
                  have s5 : z1.size ≤ 24 := by rw [← q3, ByteArray.size_append]; omega
                  have n1 : ¬ 9223372036854775807 < ez.size + A.size := by omega
                  have n2 : ¬ 9223372036854775807 < S.size + z1.size := by omega
                  have HS2 := Lib.hid hS2
                  have HE2 : Hid (({ data := #[44, 32] } : ByteArray) = bs (sepT [32] (l1.take (k + 1)))) := Lib.hid (by rw [take_at hx, sepT_snoc]; rfl)
                  clear hx hT hbx hA hez hz1 hS2 r1 r2 r3 r4 HE HS
                  go_wp2
                  refine wp_region_new (by kernel_rfl) (by kernel_rfl) ?_
                  repeat (go_big_quiet_step (first | (go_at_call 30; exact Calls.new_of (K1.out _))))
                  refine wpQuiet_nil ?_
                  intro wz hz
                  obtain ⟨pz, hz⟩ := hz
                  subst hz
                  have HTz := Lib.hid (HT_.out.go pz.below)
                  clear m0 m1_ m2_ m3_ m4_ ml0 ml1 ml2 K1 HT_
                  go_wp2
                  go_roundw
                  case rel => exact ⟨k + 1, by omega, by go_num, HTz.out, ⟨S2, rfl, HS2⟩, _, rfl, HE2⟩
                  case measure => simp [intOf]; omega
                · have hge3 : ¬ (k : Int) < (m1 : Int) := by omega
                  obtain rfl : m1 = k := by omega
                  clear hT
                  have HTa2 := HT_
                  obtain ⟨P6, hP6⟩ : ∃ P, P = P5 ++ arcsT n.places [] [32] l1 := ⟨_, rfl⟩
                  have HSa2 : Hid (S = bs P6) := Lib.hid (by rw [HS.out, hP6, Hm1.out, List.take_length])
                  have HEa2 : Hid (E = bs (sepT [32] l1)) := Lib.hid (by rw [HE.out, Hm1.out, List.take_length])
                  have HPl2 : Hid (P6.length ≤ 23933) := Lib.hid (by rw [← bs_size, ← HSa2.out]; exact hSs)
                  have HP6 := Lib.hid hP6
                  clear hP6 HS HE HT_
                  go_wp2
                  clear k3 klt
                  go_loopw [3, 7, 9] (fun s sp i wr => ∃ k : Nat, k ≤ m2 ∧ i = .int .i64 k ∧ InTr v2 wr nm dl pr (.slice a1 m1 c1) (.slice a2 m2 c2) (.slice a3 m3 c3) ∧ (∃ S, s = .string S ∧ Hid (S = bs (P6 ++ arcsT n.places [126] (sepT [32] l1) (l2.take k)))) ∧ ∃ E, sp = .string E ∧ Hid (E = bs (sepT (sepT [32] l1) (l2.take k)))) (fun _ _ i _ => m2 - (intOf i).toNat)
                  case atStart => exact ⟨0, by omega, rfl, HTa2.out, ⟨_, rfl, Lib.hid (by rw [HSa2.out]; simp [arcsT])⟩, _, rfl, Lib.hid (by rw [HEa2.out]; simp [sepT])⟩
                  case round =>
                    rename World => x2
                    obtain ⟨k, hk, rfl, hT, ⟨S, rfl, HS⟩, E, rfl, HE⟩ := hrel
                    have k3 := hT.c4
                    have klt := hT.size
                    have hSs : S.size ≤ 23933 + 192 := by
                      rw [HS.out, bs_size, List.length_append]
                      have h1 := arcsT_bd HShort.out (mark := [126]) (by simp) (by rw [← Hm2.out]; exact f5) (fun a ha => (Harc.out a (.inr (.inl ha))).2.2.2) k (sepT [32] l1) (sepT_bd (by simp) _)
                      have h2 := HPl2.out
                      omega
                    have hEs : E.size ≤ 2 := by rw [HE.out, bs_size]; exact sepT_bd (sepT_bd (by simp) _) _
                    have HT_ := Lib.hid hT
                    by_cases hlt3 : k < m2
                    · have hlti3 : (k : Int) < (m2 : Int) := by omega
                      obtain ⟨⟨x, y⟩, hx⟩ := at_lt (l := l2) (k := k) (by rw [← Hm2.out]; exact hlt3)
                      obtain ⟨b, off, rfl, hb, e0, e1⟩ := ArcsAt.at_ (G2.out.below hT.old) hx
                      obtain ⟨r1, r2, r3, r4⟩ := Harc.out (x, y) (.inr (.inl (List.mem_of_getElem? hx)))
                      simp only at r1 r2 r3 r4
                      have hbx := Hin2.out.go hT.old
                      have b0' := hbx.c0
                      have b1' := hbx.c1
                      have blt' := hbx.size
                      obtain ⟨A, hA⟩ : ∃ A, A = bs (arcT n.places (x, y)) := ⟨_, rfl⟩
                      have K1 : Hid (∀ p : NewBy x2, Calls Try.prog 30 #[.agg #[.slice ap np cp, .slice (some ⟨bt, offt, none⟩) nt ct], .agg #[.int .i64 x, .int .i64 y]] p.to fun e w' => e = .returned (.string A) ∧ Below p.to.heap.size p.to w') := Lib.hid (fun p => by
                        have := rarc_any (a2 := some ⟨bt, offt, none⟩) (n2 := nt) (c2 := ct) ((HP.out.below hbx.old).below p.below) Hnp.out r1 (by rw [Hnp.out]; exact r2) r3 r4 HShort.out
                        rw [hA]; exact this)
                      have sA : A.size ≤ 21 := by rw [hA, bs_size]; exact arcT_len HShort.out r4
                      have m0 := fun p : NewBy x2 => NewBy.cell blt' b0' p
                      have m1_ := fun p : NewBy x2 => NewBy.cell blt' b1' p
                      have m2_ := fun p : NewBy x2 => NewBy.cell klt k3 p
                      have m3_ := fun p : NewBy x2 => NewBy.cell hb e0 p
                      have m4_ := fun p : NewBy x2 => NewBy.cell hb e1 p
                      have ml0 := fun p : NewBy x2 => Nat.lt_of_lt_of_le blt' p.below.size
                      have ml1 := fun p : NewBy x2 => Nat.lt_of_lt_of_le klt p.below.size
                      have ml2 := fun p : NewBy x2 => Nat.lt_of_lt_of_le hb p.below.size
                      obtain ⟨ez, hez⟩ : ∃ z, z = bs (sepT (sepT [32] l1) (l2.take k) ++ [126]) := ⟨_, rfl⟩
                      have q0 : E ++ { data := #[126] } = ez := by rw [HE.out, hez]; exact cat_eq (b := [126]) rfl
                      have sE : ez.size ≤ 3 := by rw [← q0, ByteArray.size_append]; show E.size + 1 ≤ 3; omega
                      have n0 : ¬ 9223372036854775807 < E.size + 1 := by omega
                      obtain ⟨z1, hz1⟩ : ∃ z, z = bs (sepT (sepT [32] l1) (l2.take k) ++ [126] ++ arcT n.places (x, y)) := ⟨_, rfl⟩
                      obtain ⟨S2, hS2⟩ : ∃ z, z = bs (P6 ++ arcsT n.places [126] (sepT [32] l1) (l2.take (k + 1))) := ⟨_, rfl⟩
                      have q3 : ez ++ A = z1 := by rw [hez, hA, hz1, bs_cat]
                      have q4 : S ++ z1 = S2 := by rw [HS.out, hz1, hS2, take_at hx, arcsT_snoc]; exact cat_eq (by simp)
                      have s5 : z1.size ≤ 24 := by rw [← q3, ByteArray.size_append]; omega
                      have n1 : ¬ 9223372036854775807 < ez.size + A.size := by omega
                      have n2 : ¬ 9223372036854775807 < S.size + z1.size := by omega
                      have HS2 := Lib.hid hS2
                      have HE2 : Hid (({ data := #[44, 32] } : ByteArray) = bs (sepT (sepT [32] l1) (l2.take (k + 1)))) := Lib.hid (by rw [take_at hx, sepT_snoc]; rfl)
                      clear hx hT hbx hA hez hz1 hS2 r1 r2 r3 r4 HE HS
                      go_wp2
                      refine wp_region_new (by kernel_rfl) (by kernel_rfl) ?_
                      repeat (go_big_quiet_step (first | (go_at_call 30; exact Calls.new_of (K1.out _))))
                      refine wpQuiet_nil ?_
                      intro wz hz
                      obtain ⟨pz, hz⟩ := hz
                      subst hz
                      have HTz := Lib.hid (HT_.out.go pz.below)
                      clear m0 m1_ m2_ m3_ m4_ ml0 ml1 ml2 K1 HT_
                      go_wp2
                      go_roundw
                      case rel => exact ⟨k + 1, by omega, by go_num, HTz.out, ⟨S2, rfl, HS2⟩, _, rfl, HE2⟩
                      case measure => simp [intOf]; omega
                    · have hge3 : ¬ (k : Int) < (m2 : Int) := by omega
                      obtain rfl : m2 = k := by omega
                      clear hT
                      obtain ⟨P7, hP7⟩ : ∃ P, P = P6 ++ arcsT n.places [126] (sepT [32] l1) l2 ++ [32, 45, 62] := ⟨_, rfl⟩
                      obtain ⟨z7, hz7⟩ : ∃ z, z = bs P7 := ⟨_, rfl⟩
                      have q7 : S ++ { data := #[32, 45, 62] } = z7 := by rw [HS.out, hz7, hP7, Hm2.out, List.take_length]; exact cat_eq (b := [32, 45, 62]) rfl
                      have HSa3 := Lib.hid hz7
                      have HPl3 : Hid (P7.length ≤ 24128) := Lib.hid (by
                        have e := congrArg ByteArray.size q7
                        rw [ByteArray.size_append, hz7, bs_size] at e
                        rw [← e]
                        show S.size + 3 ≤ _
                        omega)
                      have HP7 := Lib.hid hP7
                      have HTa3 := HT_
                      clear hP7 hz7 HS HE HT_
                      go_wp2
                      clear k3 klt
                      go_loopw [3, 7, 10] (fun s sp i wr => ∃ k : Nat, k ≤ m3 ∧ i = .int .i64 k ∧ InTr v2 wr nm dl pr (.slice a1 m1 c1) (.slice a2 m2 c2) (.slice a3 m3 c3) ∧ (∃ S, s = .string S ∧ Hid (S = bs (P7 ++ arcsT n.places [] [32] (l3.take k)))) ∧ ∃ E, sp = .string E ∧ Hid (E = bs (sepT [32] (l3.take k)))) (fun _ _ i _ => m3 - (intOf i).toNat)
                      case atStart => exact ⟨0, by omega, rfl, HTa3.out, ⟨_, rfl, Lib.hid (by rw [HSa3.out]; simp [arcsT])⟩, _, rfl, Lib.hid rfl⟩
                      case round =>
                        rename World => x3
                        obtain ⟨k, hk, rfl, hT, ⟨S, rfl, HS⟩, E, rfl, HE⟩ := hrel
                        have k3 := hT.c5
                        have klt := hT.size
                        have hSs : S.size ≤ 24128 + 192 := by
                          rw [HS.out, bs_size, List.length_append]
                          have h1 := arcsT_bd HShort.out (mark := []) (by simp) (by rw [← Hm3.out]; exact f6) (fun a ha => (Harc.out a (.inr (.inr ha))).2.2.2) k [32] (by simp)
                          have h2 := HPl3.out
                          omega
                        have hEs : E.size ≤ 2 := by rw [HE.out, bs_size]; exact sepT_bd (by simp) _
                        have HT_ := Lib.hid hT
                        by_cases hlt3 : k < m3
                        · have hlti3 : (k : Int) < (m3 : Int) := by omega
                          obtain ⟨⟨x, y⟩, hx⟩ := at_lt (l := l3) (k := k) (by rw [← Hm3.out]; exact hlt3)
                          obtain ⟨b, off, rfl, hb, e0, e1⟩ := ArcsAt.at_ (G3.out.below hT.old) hx
                          obtain ⟨r1, r2, r3, r4⟩ := Harc.out (x, y) (.inr (.inr (List.mem_of_getElem? hx)))
                          simp only at r1 r2 r3 r4
                          have hbx := Hin2.out.go hT.old
                          have b0' := hbx.c0
                          have b1' := hbx.c1
                          have blt' := hbx.size
                          obtain ⟨A, hA⟩ : ∃ A, A = bs (arcT n.places (x, y)) := ⟨_, rfl⟩
                          have K1 : Hid (∀ p : NewBy x3, Calls Try.prog 30 #[.agg #[.slice ap np cp, .slice (some ⟨bt, offt, none⟩) nt ct], .agg #[.int .i64 x, .int .i64 y]] p.to fun e w' => e = .returned (.string A) ∧ Below p.to.heap.size p.to w') := Lib.hid (fun p => by
                            have := rarc_any (a2 := some ⟨bt, offt, none⟩) (n2 := nt) (c2 := ct) ((HP.out.below hbx.old).below p.below) Hnp.out r1 (by rw [Hnp.out]; exact r2) r3 r4 HShort.out
                            rw [hA]; exact this)
                          have sA : A.size ≤ 21 := by rw [hA, bs_size]; exact arcT_len HShort.out r4
                          have m0 := fun p : NewBy x3 => NewBy.cell blt' b0' p
                          have m1_ := fun p : NewBy x3 => NewBy.cell blt' b1' p
                          have m2_ := fun p : NewBy x3 => NewBy.cell klt k3 p
                          have m3_ := fun p : NewBy x3 => NewBy.cell hb e0 p
                          have m4_ := fun p : NewBy x3 => NewBy.cell hb e1 p
                          have ml0 := fun p : NewBy x3 => Nat.lt_of_lt_of_le blt' p.below.size
                          have ml1 := fun p : NewBy x3 => Nat.lt_of_lt_of_le klt p.below.size
                          have ml2 := fun p : NewBy x3 => Nat.lt_of_lt_of_le hb p.below.size
                          obtain ⟨ez, hez⟩ : ∃ z, z = bs (sepT [32] (l3.take k) ++ []) := ⟨_, rfl⟩
                          obtain rfl : ez = E := by rw [HE.out, hez]; simp
                          have sE : ez.size ≤ 3 := by omega
                          obtain ⟨z1, hz1⟩ : ∃ z, z = bs (sepT [32] (l3.take k) ++ [] ++ arcT n.places (x, y)) := ⟨_, rfl⟩
                          obtain ⟨S2, hS2⟩ : ∃ z, z = bs (P7 ++ arcsT n.places [] [32] (l3.take (k + 1))) := ⟨_, rfl⟩
                          have q3 : ez ++ A = z1 := by rw [hez, hA, hz1, bs_cat]
                          have q4 : S ++ z1 = S2 := by rw [HS.out, hz1, hS2, take_at hx, arcsT_snoc]; exact cat_eq (by simp)
                          have s5 : z1.size ≤ 24 := by rw [← q3, ByteArray.size_append]; omega
                          have n1 : ¬ 9223372036854775807 < ez.size + A.size := by omega
                          have n2 : ¬ 9223372036854775807 < S.size + z1.size := by omega
                          have HS2 := Lib.hid hS2
                          have HE2 : Hid (({ data := #[44, 32] } : ByteArray) = bs (sepT [32] (l3.take (k + 1)))) := Lib.hid (by rw [take_at hx, sepT_snoc]; rfl)
                          clear hx hT hbx hA hez hz1 hS2 r1 r2 r3 r4 HE HS
                          go_wp2
                          refine wp_region_new (by kernel_rfl) (by kernel_rfl) ?_
                          repeat (go_big_quiet_step (first | (go_at_call 30; exact Calls.new_of (K1.out _))))
                          refine wpQuiet_nil ?_
                          intro wz hz
                          obtain ⟨pz, hz⟩ := hz
                          subst hz
                          have HTz := Lib.hid (HT_.out.go pz.below)
                          clear m0 m1_ m2_ m3_ m4_ ml0 ml1 ml2 K1 HT_
                          go_wp2
                          go_roundw
                          case rel => exact ⟨k + 1, by omega, by go_num, HTz.out, ⟨S2, rfl, HS2⟩, _, rfl, HE2⟩
                          case measure => simp [intOf]; omega
                        · have hge3 : ¬ (k : Int) < (m3 : Int) := by omega
                          obtain rfl : m3 = k := by omega
                          clear hT
                          obtain ⟨S9, hS9⟩ : ∃ z, z = bs (n.places.flatMap placeT ++ (n.trans.take (j + 1)).flatMap (transT n.places)) := ⟨_, rfl⟩
                          have q9 : S ++ { data := #[59, 10] } = S9 := by
                            rw [HS.out, hS9, Hst.out, Htt.out, Hm3.out, List.take_length, HP7.out, HP6.out, HP5.out]
                            exact cat_eq (b := [59, 10]) (by simp)
                          have HS9 := Lib.hid hS9
                          have HI9 := Lib.hid (Hin2.out.go HT_.out.old)
                          clear hS9 HS HE HT_
                          go_wp2
                          go_roundw
                          case rel => exact ⟨j + 1, by omega, by go_num, HI9.out, S9, rfl, HS9⟩
                          case measure => simp [intOf]; omega
        · have hge2 : ¬ (j : Int) < (nt : Int) := by omega
          obtain rfl : nt = j := by omega
          obtain rfl : S0 = R := by rw [HS0.out, HR.out, Hnt.out, List.take_length]; rfl
          clear hin2 HS0 HR
          go_wp2
          go_ret
          exact ⟨rfl, Hin2.out.old⟩
end
end Go.Proofs.Ytfiielibnnodkaa
