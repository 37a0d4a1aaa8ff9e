/-
  The program's way through the tokens and the document's own come to the same: plain facts on both. The program's way through the tokens and the document's own come to the same: arcs. The program's way through the tokens and the document's own come to the same: lists. The program's way through the tokens and the document's own come to the same: items, and the whole. A net that the parser comes to may be: the places that are counted ahead are those that are read. What the laws' own comparison of both parsers comes to.
  Conditions: none beyond each theorem's own.
-/
import Derived.Test.YtfiielibnnodkaaQLoops2
import Derived.Test.YtfiielibnnodkaaPGood
import Derived.Test.YtfiielibnnodkaaPCheck
import Derived.Test.YtfiielibnnodkaaPUse
import Derived.Test.YtfiielibnnodkaaPAwake
import Derived.Test.YtfiielibnnodkaaNetHand
/-! ## PEqs -/
/-! ## PEqual -/
namespace Go.Proofs.Ytfiielibnnodkaa
set_option linter.unusedVariables false

/-- each token is one that the document's layer 4 tells -/
def AllTok (T : List Tok) : Prop := ∀ t ∈ T, (t.kind = 0 ∧ t.text = []) ∨ TokOk t
theorem AllTok.hd {T : List Tok} (h : AllTok T) {i : Nat} (hg : Good (T.drop i)) : ((hd (T.drop i)).kind = 0 ∧ (hd (T.drop i)).text = []) ∨ TokOk (hd (T.drop i)) := by
  obtain ⟨r, e, _⟩ := hg.cons
  exact h _ (List.mem_of_mem_drop (by rw [e]; exact List.mem_cons_self))

/-- a sign's text is a sign's alone, a word's a word's -/
theorem kind_sign {t : Tok} (h : (t.kind = 0 ∧ t.text = []) ∨ TokOk t) {c : UInt8} {r : List UInt8} (ht : t.text = c :: r) (h1 : isSmall c = false) (h2 : isDigit c = false) : t.kind = 3 := by
  rcases h with ⟨_, h⟩ | ⟨_, h⟩ | ⟨_, _, h⟩ | ⟨h, _⟩
  · rw [h] at ht; cases ht
  · rw [ht] at h; simp [wordB, h1] at h
  · rw [ht] at h; simp [h2] at h
  · exact h
theorem kind_word {t : Tok} (h : (t.kind = 0 ∧ t.text = []) ∨ TokOk t) {c : UInt8} {r : List UInt8} (ht : t.text = c :: r) (h1 : isSmall c = true) : t.kind = 1 := by
  rcases h with ⟨_, h⟩ | ⟨h, _⟩ | ⟨_, _, h⟩ | ⟨_, h⟩
  · rw [h] at ht; cases ht
  · exact h
  · rw [ht] at h
    simp at h
    have := digit_not_small c h.1
    rw [h1] at this; cases this
  · rcases h with h | ⟨d, hd, h⟩
    · rw [ht] at h; injection h with h _; rw [h] at h1; exact absurd h1 (by decide)
    · rw [ht] at h; injection h with h _; subst h; have := (sign_facts c hd).2.2.1; rw [h1] at this; cases this

/-- the document's parser stands at ts, without an error; it has an error at ts -/
structure At (T : List Tok) (D : QD) (ts : List Tok) : Prop where
  e : D.e = 0
  drop : T.drop D.i = ts
  good : Good ts
structure Bad (D : QD) (er : Int) (ts : List Tok) : Prop where
  ne : er ≠ 0
  e : D.e = er
  at_ : D.at_ = ((hd ts).at_ : Int)
/-- an error stays as it is -/
def Frz (D D' : QD) : Prop := D.e ≠ 0 → D'.e = D.e ∧ D'.at_ = D.at_
/-- the net and the names are as they were -/
def Same2 (D D' : QD) : Prop := D'.n = D.n ∧ D'.told = D.told

theorem Same2.refl (D : QD) : Same2 D D := ⟨rfl, rfl⟩
theorem Same2.trans {A B C : QD} (h : Same2 A B) (k : Same2 B C) : Same2 A C := ⟨k.1.trans h.1, k.2.trans h.2⟩
theorem Frz.refl (D : QD) : Frz D D := fun _ => ⟨rfl, rfl⟩
theorem Frz.trans {A B C : QD} (h : Frz A B) (k : Frz B C) : Frz A C := fun e => by
  obtain ⟨h1, h2⟩ := h e
  obtain ⟨k1, k2⟩ := k (by rw [h1]; exact e)
  exact ⟨k1.trans h1, k2.trans h2⟩
theorem Bad.frz {D D' : QD} {er : Int} {ts : List Tok} (h : Bad D er ts) (k : Frz D D') : Bad D' er ts := by
  obtain ⟨h1, h2⟩ := k (by rw [h.e]; exact h.ne)
  exact ⟨h.ne, h1.trans h.e, h2.trans h.at_⟩

section
variable {T ts : List Tok} {D : QD} {s : List UInt8} {er : Int}

theorem failD_frz (T : List Tok) (er : Int) (D : QD) : Frz D (failD T er D) := fun e => by unfold failD; rw [if_neg e]; exact ⟨rfl, rfl⟩
theorem stepD_frz (T : List Tok) (D : QD) : Frz D (stepD T D) := fun e => by unfold stepD; rw [if_neg (fun h => e h.1)]; exact ⟨rfl, rfl⟩
theorem failD_same (T : List Tok) (er : Int) (D : QD) : Same2 D (failD T er D) := by unfold failD; split <;> exact ⟨rfl, rfl⟩
theorem stepD_same (T : List Tok) (D : QD) : Same2 D (stepD T D) := by unfold stepD; split <;> exact ⟨rfl, rfl⟩
theorem sees_frz {k : Nat} (h : D.e ≠ 0) : seesD T k s D = false := by unfold seesD; rw [decide_eq_false h]; rfl

theorem At.hd (h : At T D ts) : D.hd T = hd ts := by unfold QD.hd; rw [h.drop]
theorem At.lt (h : At T D ts) : D.i < T.length := by
  have := h.good.len
  rw [← h.drop, List.length_drop] at this
  omega
theorem At.fail (h : At T D ts) (he : er ≠ 0) : Bad (failD T er D) er ts := by
  unfold failD
  rw [if_pos h.e]
  exact ⟨he, rfl, by rw [h.hd]⟩
theorem At.step (h : At T D ts) (hg : Good ts.tail) : At T (stepD T D) ts.tail := by
  have h1 := hg.len
  have h2 := tail_len h.good
  have h3 : ts.length = T.length - D.i := by rw [← h.drop, List.length_drop]
  unfold stepD
  rw [if_pos ⟨h.e, by omega⟩]
  exact ⟨h.e, by rw [← h.drop, List.tail_drop], hg⟩
theorem At.sees (h : At T D ts) (k : Nat) (s : List UInt8) : seesD T k s D = (decide ((Proofs.Ytfiielibnnodkaa.hd ts).kind = k) && (decide (s = []) || decide ((Proofs.Ytfiielibnnodkaa.hd ts).text = s))) := by
  unfold seesD; rw [decide_eq_true h.e, h.hd]; rfl

/-- a sign is seen just if its text is there -/
theorem At.seesS (h : At T D ts) (hT : AllTok T) {c : UInt8} {r : List UInt8} (hs : s = c :: r) (h1 : isSmall c = false) (h2 : isDigit c = false) : seesD T 3 s D = decide ((Proofs.Ytfiielibnnodkaa.hd ts).text = s) := by
  rw [h.sees]
  by_cases ht : (Proofs.Ytfiielibnnodkaa.hd ts).text = s
  · have hk := kind_sign (by have := hT.hd (i := D.i) (by rw [h.drop]; exact h.good); rw [h.drop] at this; exact this) (ht.trans hs) h1 h2
    rw [decide_eq_true hk, decide_eq_true ht]; simp
  · rw [decide_eq_false ht, hs]; simp
theorem At.seesW (h : At T D ts) (hT : AllTok T) {c : UInt8} {r : List UInt8} (hs : s = c :: r) (h1 : isSmall c = true) : seesD T 1 s D = decide ((Proofs.Ytfiielibnnodkaa.hd ts).text = s) := by
  rw [h.sees]
  by_cases ht : (Proofs.Ytfiielibnnodkaa.hd ts).text = s
  · have hk := kind_word (by have := hT.hd (i := D.i) (by rw [h.drop]; exact h.good); rw [h.drop] at this; exact this) (ht.trans hs) h1
    rw [decide_eq_true hk, decide_eq_true ht]; simp
  · rw [decide_eq_false ht, hs]; simp
theorem At.seesK (h : At T D ts) (k : Nat) : seesD T k [] D = decide ((Proofs.Ytfiielibnnodkaa.hd ts).kind = k) := by rw [h.sees]; simp

/-! ### a sign that must be -/
theorem signD_frz (T : List Tok) (s : List UInt8) (D : QD) : Frz D (signD T s D) := by
  unfold signD
  split
  · exact stepD_frz T D
  · exact (failD_frz T 6 D).trans (stepD_frz T _)
theorem signD_same (T : List Tok) (s : List UInt8) (D : QD) : Same2 D (signD T s D) := by
  unfold signD
  split
  · exact stepD_same T D
  · exact (failD_same T 6 D).trans (stepD_same T _)
theorem At.signYes (h : At T D ts) (hT : AllTok T) {c : UInt8} {r : List UInt8} (hs : s = c :: r) (h1 : isSmall c = false) (h2 : isDigit c = false) (ht : (Proofs.Ytfiielibnnodkaa.hd ts).text = s) : At T (signD T s D) ts.tail := by
  unfold signD
  rw [h.seesS hT hs h1 h2, decide_eq_true ht, if_pos rfl]
  exact h.step (h.good.tailT (by rw [ht, hs]; simp))
theorem At.signNo (h : At T D ts) (hT : AllTok T) {c : UInt8} {r : List UInt8} (hs : s = c :: r) (h1 : isSmall c = false) (h2 : isDigit c = false) (ht : ¬ (Proofs.Ytfiielibnnodkaa.hd ts).text = s) : Bad (signD T s D) 6 ts := by
  unfold signD
  rw [h.seesS hT hs h1 h2, decide_eq_false ht, if_neg (by simp)]
  exact (h.fail (by decide)).frz (stepD_frz T _)

/-! ### a number behind a sign, or what stands for it -/
def numOpt (T : List Tok) (s : List UInt8) (least : Int) (D : QD) : Int × QD := if seesD T 3 s D = true then numD T least (stepD T D) else (least, D)
theorem optD_eq (T : List Tok) (s : List UInt8) (D : QD) : optD T s D = numOpt T s 0 D := rfl
theorem numD_frz (T : List Tok) (least : Int) (D : QD) : Frz D (numD T least D).2 := by
  unfold numD
  split
  · show Frz D (stepD T _)
    split
    · exact (failD_frz T 3 D).trans (stepD_frz T _)
    · exact stepD_frz T D
  · exact failD_frz T 6 D
theorem numD_same (T : List Tok) (least : Int) (D : QD) : Same2 D (numD T least D).2 := by
  unfold numD
  split
  · show Same2 D (stepD T _)
    split
    · exact (failD_same T 3 D).trans (stepD_same T _)
    · exact stepD_same T D
  · exact failD_same T 6 D
theorem numOpt_frz (T : List Tok) (s : List UInt8) (least : Int) (D : QD) : Frz D (numOpt T s least D).2 := by
  unfold numOpt
  split
  · exact (stepD_frz T D).trans (numD_frz T least _)
  · exact Frz.refl D
theorem numOpt_same (T : List Tok) (s : List UInt8) (least : Int) (D : QD) : Same2 D (numOpt T s least D).2 := by
  unfold numOpt
  split
  · exact (stepD_same T D).trans (numD_same T least _)
  · exact Same2.refl D

theorem At.num (h : At T D ts) (hT : AllTok T) {c : UInt8} {r : List UInt8} (hs : s = c :: r) (h1 : isSmall c = false) (h2 : isDigit c = false) (least : Int) :
    ((numG s least ts).2.1 = 0 → At T (numOpt T s least D).2 (numG s least ts).2.2 ∧ (numOpt T s least D).1 = (numG s least ts).1) ∧
    ((numG s least ts).2.1 ≠ 0 → Bad (numOpt T s least D).2 (numG s least ts).2.1 (numG s least ts).2.2) := by
  by_cases ht : (Proofs.Ytfiielibnnodkaa.hd ts).text = s
  · have h3 := h.step (h.good.tailT (by rw [ht, hs]; simp))
    have eO : numOpt T s least D = numD T least (stepD T D) := by unfold numOpt; rw [h.seesS hT hs h1 h2, decide_eq_true ht, if_pos rfl]
    rw [eO]
    by_cases hk : (Proofs.Ytfiielibnnodkaa.hd ts.tail).kind = 2
    · have eN : numD T least (stepD T D) = (((Proofs.Ytfiielibnnodkaa.hd ts.tail).num : Int), stepD T (if ((Proofs.Ytfiielibnnodkaa.hd ts.tail).num : Int) < least ∨ (1000000 : Int) < ((Proofs.Ytfiielibnnodkaa.hd ts.tail).num : Int) then failD T 3 (stepD T D) else stepD T D)) := by
        unfold numD; rw [h3.seesK, decide_eq_true hk, if_pos rfl, h3.hd]
      by_cases hn : ((Proofs.Ytfiielibnnodkaa.hd ts.tail).num : Int) < least ∨ 1000000 < (Proofs.Ytfiielibnnodkaa.hd ts.tail).num
      · have hn' : ((Proofs.Ytfiielibnnodkaa.hd ts.tail).num : Int) < least ∨ (1000000 : Int) < ((Proofs.Ytfiielibnnodkaa.hd ts.tail).num : Int) := by omega
        have eG : numG s least ts = (0, 3, ts.tail) := by unfold numG; rw [if_pos ht, if_neg (not_not_intro hk), if_pos hn]
        rw [eG, eN, if_pos hn']
        exact ⟨fun e => absurd e (by simp), fun _ => (h3.fail (er := 3) (by decide)).frz (stepD_frz T _)⟩
      · have hn' : ¬ (((Proofs.Ytfiielibnnodkaa.hd ts.tail).num : Int) < least ∨ (1000000 : Int) < ((Proofs.Ytfiielibnnodkaa.hd ts.tail).num : Int)) := by omega
        have eG : numG s least ts = (((Proofs.Ytfiielibnnodkaa.hd ts.tail).num : Int), 0, ts.tail.tail) := by unfold numG; rw [if_pos ht, if_neg (not_not_intro hk), if_neg hn]
        rw [eG, eN, if_neg hn']
        exact ⟨fun _ => ⟨h3.step (h3.good.tailK (by rw [hk]; decide)), rfl⟩, fun e => absurd rfl e⟩
    · have eN : numD T least (stepD T D) = (0, failD T 6 (stepD T D)) := by unfold numD; rw [h3.seesK, decide_eq_false hk, if_neg (by simp)]
      have eG : numG s least ts = (0, 6, ts.tail) := by unfold numG; rw [if_pos ht, if_pos hk]
      rw [eG, eN]
      exact ⟨fun e => absurd e (by simp), fun _ => h3.fail (er := 6) (by decide)⟩
  · have eO : numOpt T s least D = (least, D) := by unfold numOpt; rw [h.seesS hT hs h1 h2, decide_eq_false ht, if_neg (by simp)]
    have eG : numG s least ts = (least, 0, ts) := by unfold numG; rw [if_neg ht]
    rw [eO, eG]
    exact ⟨fun _ => ⟨h, rfl⟩, fun e => absurd rfl e⟩

/-! ### names -/
/-- the names so far are the net's -/
def Told (D : QD) : Prop := ∀ x, hasSB D.told x = ((D.n.places.any fun p => sEq p.name x) || (D.n.trans.any fun t => sEq t.name x))

theorem nameD_frz (T : List Tok) (D : QD) : Frz D (nameD T D) := by
  unfold nameD nameD1
  refine Frz.trans (B := { (if seesD T 1 [] D = true then (if 12 < (D.hd T).text.length ∨ hasSB D.told (bs (D.hd T).text) = true then failD T 7 D else D) else failD T 6 D) with told := _ }) ?_ (stepD_frz T _)
  split
  · split
    · exact fun e => failD_frz T 7 D e
    · exact fun e => ⟨rfl, rfl⟩
  · exact fun e => failD_frz T 6 D e

theorem wordB_name {l : List UInt8} (h : wordB l = true) : nameB l = decide (l.length ≤ 12) := by unfold nameB; rw [h]; rfl

theorem At.name (h : At T D ts) (hT : AllTok T) (hto : Told D) :
    ((nameG D.n ts).2.1 = 0 → At T (nameD T D) (nameG D.n ts).2.2 ∧ (nameG D.n ts).1 = (Proofs.Ytfiielibnnodkaa.hd ts).text ∧ (nameD T D).n = D.n ∧ (nameD T D).told = D.told ++ [bs (Proofs.Ytfiielibnnodkaa.hd ts).text]) ∧
    ((nameG D.n ts).2.1 ≠ 0 → Bad (nameD T D) (nameG D.n ts).2.1 (nameG D.n ts).2.2) := by
  have hk0 := hT.hd (i := D.i) (by rw [h.drop]; exact h.good)
  rw [h.drop] at hk0
  by_cases hk : (Proofs.Ytfiielibnnodkaa.hd ts).kind = 1
  · have hw : wordB (Proofs.Ytfiielibnnodkaa.hd ts).text = true := by
      rcases hk0 with ⟨h0, _⟩ | ⟨_, h0⟩ | ⟨h0, _⟩ | ⟨h0, _⟩
      · rw [hk] at h0; cases h0
      · exact h0
      · rw [hk] at h0; cases h0
      · rw [hk] at h0; cases h0
    have e1 : nameD1 T D = if 12 < (Proofs.Ytfiielibnnodkaa.hd ts).text.length ∨ hasSB D.told (bs (Proofs.Ytfiielibnnodkaa.hd ts).text) = true then failD T 7 D else D := by
      unfold nameD1; rw [h.seesK, decide_eq_true hk, if_pos rfl, h.hd]
    have hnew : newB D.n (Proofs.Ytfiielibnnodkaa.hd ts).text = (decide ((Proofs.Ytfiielibnnodkaa.hd ts).text.length ≤ 12) && !(hasSB D.told (bs (Proofs.Ytfiielibnnodkaa.hd ts).text))) := by
      unfold newB
      rw [wordB_name hw, hto, Bool.not_or, Bool.and_assoc]
      rfl
    by_cases hb : 12 < (Proofs.Ytfiielibnnodkaa.hd ts).text.length ∨ hasSB D.told (bs (Proofs.Ytfiielibnnodkaa.hd ts).text) = true
    · have hn : newB D.n (Proofs.Ytfiielibnnodkaa.hd ts).text = false := by
        rw [hnew]
        rcases hb with hb | hb
        · rw [decide_eq_false (by omega)]; rfl
        · rw [hb]; simp
      have eG : nameG D.n ts = ([], 7, ts) := by unfold nameG; rw [if_neg (not_not_intro hk), if_pos hn]
      rw [if_pos hb] at e1
      rw [eG]
      refine ⟨fun e => absurd e (by simp), fun _ => ?_⟩
      unfold nameD
      rw [e1]
      have hf := h.fail (er := 7) (by decide)
      exact Bad.frz (D := { failD T 7 D with told := (failD T 7 D).told ++ [bs (D.hd T).text] }) ⟨hf.ne, hf.e, hf.at_⟩ (stepD_frz T _)
    · have hn : newB D.n (Proofs.Ytfiielibnnodkaa.hd ts).text = true := by
        rw [hnew, decide_eq_true (by omega)]
        have : hasSB D.told (bs (Proofs.Ytfiielibnnodkaa.hd ts).text) = false := by
          cases hh : hasSB D.told (bs (Proofs.Ytfiielibnnodkaa.hd ts).text) with
          | false => rfl
          | true => exact absurd (.inr hh) hb
        rw [this]; rfl
      have eG : nameG D.n ts = ((Proofs.Ytfiielibnnodkaa.hd ts).text, 0, ts.tail) := by unfold nameG; rw [if_neg (not_not_intro hk), if_neg (by rw [hn]; simp)]
      rw [if_neg hb] at e1
      rw [eG]
      refine ⟨fun _ => ?_, fun e => absurd rfl e⟩
      have hA : At T { D with told := D.told ++ [bs (Proofs.Ytfiielibnnodkaa.hd ts).text] } ts := ⟨h.e, h.drop, h.good⟩
      have hS := hA.step (h.good.tailK (by rw [hk]; decide))
      have hs2 := stepD_same T { D with told := D.told ++ [bs (Proofs.Ytfiielibnnodkaa.hd ts).text] }
      unfold nameD
      rw [e1, h.hd]
      exact ⟨hS, rfl, hs2.1, hs2.2⟩
  · have e1 : nameD1 T D = failD T 6 D := by unfold nameD1; rw [h.seesK, decide_eq_false hk, if_neg (by simp)]
    have eG : nameG D.n ts = ([], 6, ts) := by unfold nameG; rw [if_pos hk]
    rw [eG]
    refine ⟨fun e => absurd e (by simp), fun _ => ?_⟩
    unfold nameD
    rw [e1]
    have hf := h.fail (er := 6) (by decide)
    exact Bad.frz (D := { failD T 6 D with told := (failD T 6 D).told ++ [bs (D.hd T).text] }) ⟨hf.ne, hf.e, hf.at_⟩ (stepD_frz T _)
end
end Go.Proofs.Ytfiielibnnodkaa

/-! ## PEqArc -/
namespace Go.Proofs.Ytfiielibnnodkaa
set_option linter.unusedVariables false

theorem sEq_bs (a b : List UInt8) : sEq (bs a) (bs b) = decide (a = b) := by
  unfold sEq; rw [bs_data, bs_data]; by_cases h : a = b <;> simp [h]
theorem has_map (s : List UInt8) (ns : List (List UInt8)) : hasSB (ns.map bs) (bs s) = decide (s ∈ ns) := by
  unfold hasSB
  induction ns with
  | nil => simp
  | cons a l ih =>
    rw [List.map_cons, List.any_cons, ih, sEq_bs]
    by_cases h : a = s
    · subst h; simp
    · have h' : ¬ s = a := fun e => h e.symm
      simp [h, h']

theorem find_map (s : List UInt8) (ns : List (List UInt8)) : (ns.map bs).findIdx (fun x => sEq x (bs s)) = ns.idxOf s := by
  induction ns with
  | nil => rfl
  | cons a l ih =>
    rw [List.map_cons, List.findIdx_cons, ih, sEq_bs, List.idxOf_cons]
    by_cases h : a = s
    · simp [h]
    · have h2 : (a == s) = false := by simpa using h
      rw [h2]; simp [h]
theorem idx_map (s : List UInt8) (ns : List (List UInt8)) : idxOf (fun x => sEq x (bs s)) (ns.map bs) = if s ∈ ns then ((ns.idxOf s : Nat) : Int) else -1 := by
  unfold idxOf idxFrom
  rw [anyFrom_zero, show (ns.map bs).any (fun x => sEq x (bs s)) = decide (s ∈ ns) from has_map s ns, List.drop_zero, find_map]
  by_cases h : s ∈ ns <;> simp [h]

/-- the names of the places are the same -/
theorem nums_same : ∀ (T : List Tok) (ns : List (List UInt8)), Good T → AllTok T → numsQ (ns.map bs) T = (numsG ns T).map bs
  | [], ns, h, _ => absurd rfl h.ne
  | [e], ns, h, _ => by
    have : ¬ e.text = wPlace := by rw [h.2]; decide
    simp [numsQ, numsG, this]
  | t :: u :: ts, ns, h, hT => by
    have hk : t.text = wPlace → t.kind = 1 := fun e => kind_word (hT t (by simp)) (c := 112) (r := [108, 97, 99, 101]) e (by decide)
    have ih := nums_same (u :: ts) (if t.text = wPlace ∧ (hd (u :: ts)).kind = 1 ∧ (hd (u :: ts)).text ∉ ns then ns ++ [(hd (u :: ts)).text] else ns) h.2.2.2 (fun x hx => hT x (List.mem_cons_of_mem _ hx))
    rw [numsG, numsQ, ← ih]
    congr 1
    rw [has_map]
    by_cases hc : t.text = wPlace ∧ (hd (u :: ts)).kind = 1 ∧ (hd (u :: ts)).text ∉ ns
    · rw [if_pos hc, if_pos ⟨by simp, hk hc.1, hc.1, hc.2.1, decide_eq_false hc.2.2⟩]; simp
    · rw [if_neg hc, if_neg (fun e => hc ⟨e.2.2.1, e.2.2.2.1, of_decide_eq_false e.2.2.2.2⟩)]

theorem arcD_frz (T : List Tok) (ns : List ByteArray) (l : List (Int × Int)) (D : QD) : Frz D (arcD T ns l D).2 := by
  have h1 : Frz D (arcD1 T ns l D) := by
    unfold arcD1
    split
    · exact failD_frz T 7 D
    · exact Frz.refl D
  have h2 : Frz D (arcD2 T ns l D) := by
    unfold arcD2
    refine Frz.trans ?_ (stepD_frz T _)
    split
    · exact h1.trans (failD_frz T 5 _)
    · exact h1
  unfold arcD
  split
  · split
    · exact (h2.trans (stepD_frz T _)).trans (numD_frz T 1 _)
    · exact h2
  · exact failD_frz T 6 D
theorem arcD_same (T : List Tok) (ns : List ByteArray) (l : List (Int × Int)) (D : QD) : Same2 D (arcD T ns l D).2 := by
  have h1 : Same2 D (arcD1 T ns l D) := by
    unfold arcD1
    split
    · exact failD_same T 7 D
    · exact Same2.refl D
  have h2 : Same2 D (arcD2 T ns l D) := by
    unfold arcD2
    refine Same2.trans ?_ (stepD_same T _)
    split
    · exact h1.trans (failD_same T 5 _)
    · exact h1
  unfold arcD
  split
  · split
    · exact (h2.trans (stepD_same T _)).trans (numD_same T 1 _)
    · exact h2
  · exact failD_same T 6 D

section
variable {T ts : List Tok} {D : QD} {ns : List (List UInt8)} {l : List (Int × Int)}

theorem arcD_opt (hs : seesD T 1 [] D = true) : arcD T (ns.map bs) l D = (l ++ [(kD T (ns.map bs) D, (numOpt T [42] 1 (arcD2 T (ns.map bs) l D)).1)], (numOpt T [42] 1 (arcD2 T (ns.map bs) l D)).2) := by
  unfold arcD numOpt
  rw [if_pos hs]
  split <;> rfl

theorem at_arc (h : At T D ts) (hT : AllTok T) :
    ((arcG ns l ts).2.1 = 0 → At T (arcD T (ns.map bs) l D).2 (arcG ns l ts).2.2 ∧ (arcD T (ns.map bs) l D).1 = (arcG ns l ts).1 ∧ (arcG ns l ts).2.2.length < ts.length) ∧
    ((arcG ns l ts).2.1 ≠ 0 → Bad (arcD T (ns.map bs) l D).2 (arcG ns l ts).2.1 (arcG ns l ts).2.2) := by
  by_cases hk : (hd ts).kind = 1
  · have hs : seesD T 1 [] D = true := by rw [h.seesK, decide_eq_true hk]
    have hkD : kD T (ns.map bs) D = if (hd ts).text ∈ ns then ((ns.idxOf (hd ts).text : Nat) : Int) else -1 := by unfold kD; rw [h.hd, idx_map]
    rw [arcD_opt hs]
    by_cases hb : (hd ts).text ∉ ns ∨ hasP l (ns.idxOf (hd ts).text : Nat) = true
    · have eG : arcG ns l ts = ([], 7, ts) := by unfold arcG; rw [if_neg (not_not_intro hk), if_pos hb]
      have e1 : arcD1 T (ns.map bs) l D = failD T 7 D := by
        unfold arcD1
        rw [hkD]
        by_cases hm : (hd ts).text ∈ ns
        · have := hb.resolve_left (fun e => e hm)
          rw [if_pos hm, this, if_pos (by simp)]
        · rw [if_neg hm, if_pos (by simp)]
      rw [eG]
      refine ⟨fun e => absurd e (by simp), fun _ => ?_⟩
      have hf := h.fail (er := 7) (by decide)
      rw [← e1] at hf
      have h2 : Frz (arcD1 T (ns.map bs) l D) (arcD2 T (ns.map bs) l D) := by
        unfold arcD2
        refine Frz.trans ?_ (stepD_frz T _)
        split
        · exact failD_frz T 5 _
        · exact Frz.refl _
      exact hf.frz (h2.trans (numOpt_frz T [42] 1 _))
    · have hm : (hd ts).text ∈ ns := Classical.byContradiction (fun e => hb (.inl e))
      have hp : hasP l (ns.idxOf (hd ts).text : Nat) = false := by
        cases hh : hasP l (ns.idxOf (hd ts).text : Nat) with
        | false => rfl
        | true => exact absurd (.inr hh) hb
      have hkD' : kD T (ns.map bs) D = ((ns.idxOf (hd ts).text : Nat) : Int) := by rw [hkD, if_pos hm]
      have e1 : arcD1 T (ns.map bs) l D = D := by
        unfold arcD1
        rw [hkD', hp, decide_eq_false (by omega), if_neg (by simp)]
      by_cases h8 : l.length = 8
      · have eG : arcG ns l ts = ([], 5, ts) := by unfold arcG; rw [if_neg (not_not_intro hk), if_neg hb, if_pos h8]
        have e2 : arcD2 T (ns.map bs) l D = stepD T (failD T 5 D) := by unfold arcD2; rw [if_pos h8, e1]
        rw [eG, e2]
        exact ⟨fun e => absurd e (by simp), fun _ => (h.fail (er := 5) (by decide)).frz ((stepD_frz T _).trans (numOpt_frz T [42] 1 _))⟩
      · have e2 : arcD2 T (ns.map bs) l D = stepD T D := by unfold arcD2; rw [if_neg h8, e1]
        have h3 := h.step (h.good.tailK (by rw [hk]; decide))
        obtain ⟨n1, n2⟩ := h3.num (s := [42]) hT rfl (by decide) (by decide) 1
        have hr := (numG_rest (s := [42]) (by simp) (least := 1) h3.good).2.1
        have htl := tail_len h.good
        rw [e2, hkD']
        by_cases he : (numG [42] 1 ts.tail).2.1 = 0
        · have eG : arcG ns l ts = (l ++ [(((ns.idxOf (hd ts).text : Nat) : Int), (numG [42] 1 ts.tail).1)], 0, (numG [42] 1 ts.tail).2.2) := by unfold arcG; rw [if_neg (not_not_intro hk), if_neg hb, if_neg h8, if_neg (not_not_intro he)]
          rw [eG]
          obtain ⟨m1, m2⟩ := n1 he
          exact ⟨fun _ => ⟨m1, by rw [m2], by simp only; omega⟩, fun e => absurd rfl e⟩
        · have eG : arcG ns l ts = ([], (numG [42] 1 ts.tail).2.1, (numG [42] 1 ts.tail).2.2) := by unfold arcG; rw [if_neg (not_not_intro hk), if_neg hb, if_neg h8, if_pos he]
          rw [eG]
          exact ⟨fun e => absurd e he, fun _ => n2 he⟩
  · have eG : arcG ns l ts = ([], 6, ts) := by unfold arcG; rw [if_pos hk]
    have eD : arcD T (ns.map bs) l D = (l, failD T 6 D) := by unfold arcD; rw [h.seesK, decide_eq_false hk, if_neg (by simp)]
    rw [eG, eD]
    exact ⟨fun e => absurd e (by simp), fun _ => h.fail (er := 6) (by decide)⟩
end
end Go.Proofs.Ytfiielibnnodkaa

/-! ## PEqList -/
namespace Go.Proofs.Ytfiielibnnodkaa
set_option linter.unusedVariables false

/-- both stand at one place, with the same lists -/
structure SimL (T : List Tok) (x : LQ) (y : LS) : Prop where
  at_ : At T x.D y.ts
  inn : x.inn = y.inn
  nt : x.nt = y.nt
  out : x.out = y.out

/-- an element without the comma ahead of it -/
def lookE (T : List Tok) (ns : List ByteArray) (x : LQ) : LQ :=
  if seesD T 3 [126] x.D = true then ⟨(arcD T ns x.nt (stepD T x.D)).2, x.inn, (arcD T ns x.nt (stepD T x.D)).1, x.out⟩
  else ⟨(arcD T ns x.inn x.D).2, (arcD T ns x.inn x.D).1, x.nt, x.out⟩
def outE (T : List Tok) (ns : List ByteArray) (x : LQ) : LQ := ⟨(arcD T ns x.out x.D).2, x.inn, x.nt, (arcD T ns x.out x.D).1⟩
theorem lookQ1_eq (T : List Tok) (ns : List ByteArray) (k : Nat) (x : LQ) : lookQ1 T ns k x = lookE T ns { x with D := commaD T k x.D } := rfl
theorem outQ1_eq (T : List Tok) (ns : List ByteArray) (k : Nat) (x : LQ) : outQ1 T ns k x = outE T ns { x with D := commaD T k x.D } := rfl

/-- what is asked of an element's two ways -/
structure SimE (T : List Tok) (eQ : LQ → LQ) (eG : LS → LS × Int) : Prop where
  ok : ∀ x y, SimL T x y → (eG y).2 = 0 → SimL T (eQ x) (eG y).1 ∧ (eG y).1.ts.length < y.ts.length
  bad : ∀ x y, SimL T x y → (eG y).2 ≠ 0 → Bad (eQ x).D (eG y).2 (eG y).1.ts
  frz : ∀ x, Frz x.D (eQ x).D
  same : ∀ x, Same2 x.D (eQ x).D

theorem look_sim {T : List Tok} (hT : AllTok T) (ns : List (List UInt8)) : SimE T (lookE T (ns.map bs)) (lookG ns) := by
  refine ⟨fun x y h he => ?_, fun x y h he => ?_, fun x => ?_, fun x => ?_⟩
  · unfold lookE
    unfold lookG at he ⊢
    rw [h.at_.seesS hT rfl (by decide) (by decide)]
    by_cases ht : (hd y.ts).text = [126]
    · rw [if_pos ht] at he ⊢
      rw [decide_eq_true ht, if_pos rfl]
      have h1 := h.at_.step (h.at_.good.tailT (by rw [ht]; simp))
      obtain ⟨a1, a2, a3⟩ := (at_arc (ns := ns) (l := y.nt) h1 hT).1 he
      rw [h.nt]
      exact ⟨⟨a1, h.inn, a2, h.out⟩, by have := tail_len h.at_.good; simp only; omega⟩
    · rw [if_neg ht] at he ⊢
      rw [decide_eq_false ht, if_neg (by simp)]
      obtain ⟨a1, a2, a3⟩ := (at_arc (ns := ns) (l := y.inn) h.at_ hT).1 he
      rw [h.inn]
      exact ⟨⟨a1, a2, h.nt, h.out⟩, a3⟩
  · unfold lookE
    unfold lookG at he ⊢
    rw [h.at_.seesS hT rfl (by decide) (by decide)]
    by_cases ht : (hd y.ts).text = [126]
    · rw [if_pos ht] at he ⊢
      rw [decide_eq_true ht, if_pos rfl]
      have h1 := h.at_.step (h.at_.good.tailT (by rw [ht]; simp))
      rw [h.nt]
      exact (at_arc (ns := ns) (l := y.nt) h1 hT).2 he
    · rw [if_neg ht] at he ⊢
      rw [decide_eq_false ht, if_neg (by simp)]
      rw [h.inn]
      exact (at_arc (ns := ns) (l := y.inn) h.at_ hT).2 he
  · unfold lookE
    split
    · exact (stepD_frz T _).trans (arcD_frz T _ _ _)
    · exact arcD_frz T _ _ _
  · unfold lookE
    split
    · exact (stepD_same T _).trans (arcD_same T _ _ _)
    · exact arcD_same T _ _ _

theorem out_sim {T : List Tok} (hT : AllTok T) (ns : List (List UInt8)) : SimE T (outE T (ns.map bs)) (outG ns) := by
  refine ⟨fun x y h he => ?_, fun x y h he => ?_, fun x => arcD_frz T _ _ _, fun x => arcD_same T _ _ _⟩
  · unfold outE
    unfold outG at he ⊢
    obtain ⟨a1, a2, a3⟩ := (at_arc (ns := ns) (l := y.out) h.at_ hT).1 he
    rw [h.out]
    exact ⟨⟨a1, h.inn, h.nt, a2⟩, a3⟩
  · unfold outE
    unfold outG at he ⊢
    rw [h.out]
    exact (at_arc (ns := ns) (l := y.out) h.at_ hT).2 he

theorem loopQ_frz {T : List Tok} {stop : List UInt8} {one : Nat → LQ → LQ} (F k : Nat) (x : LQ) (h : x.D.e ≠ 0) : loopQ T stop one F k x = x := by
  cases F with
  | zero => rfl
  | succ F => unfold loopQ; rw [if_neg (fun e => h e.1)]

/-- what is asked of a list's two ways -/
structure SimT (T : List Tok) (stop : List UInt8) (x q : LQ) (g : LS × Int) : Prop where
  bad : g.2 ≠ 0 → Bad q.D g.2 g.1.ts
  ok : g.2 = 0 → (hd g.1.ts).text = stop → SimL T q g.1
  no : g.2 = 0 → ¬ (hd g.1.ts).text = stop → Bad q.D 6 g.1.ts
  same : Same2 x.D q.D

section
variable {T : List Tok} {eQ : LQ → LQ} {eG : LS → LS × Int} {stop : List UInt8} {c : UInt8} {r : List UInt8}

theorem loop_sim (hE : SimE T eQ eG) (hT : AllTok T) (hs : stop = c :: r) (h1 : isSmall c = false) (h2 : isDigit c = false) (hc : stop ≠ [44]) (f : Nat) :
    ∀ (x : LQ) (y : LS) (k F : Nat), SimL T x y → y.ts.length ≤ f → y.ts.length ≤ F → SimT T stop x (loopQ T stop (fun k x => eQ { x with D := commaD T k x.D }) F (k + 1) (eQ x)) (listG eG f y) := by
  induction f with
  | zero => intro x y k F h hf; have := h.at_.good.len; omega
  | succ f ih =>
    intro x y k F h hf hF
    by_cases he : (eG y).2 = 0
    · obtain ⟨h3, h4⟩ := hE.ok x y h he
      obtain ⟨F', rfl⟩ : ∃ F', F = F' + 1 := ⟨F - 1, by have := h.at_.good.len; omega⟩
      have hsame := hE.same x
      have hsees := h3.at_.seesS hT hs h1 h2
      by_cases ht : (hd (eG y).1.ts).text = stop
      · have e1 : loopQ T stop (fun k x => eQ { x with D := commaD T k x.D }) (F' + 1) (k + 1) (eQ x) = eQ x := by
          unfold loopQ; rw [if_neg (fun e => by rw [hsees, decide_eq_true ht] at e; cases e.2)]
        have e2 : listG eG (f + 1) y = ((eG y).1, 0) := by rw [listG, if_neg (not_not_intro he), if_neg (by rw [ht]; exact hc)]
        rw [e1, e2]
        exact ⟨fun e => absurd rfl e, fun _ _ => h3, fun _ e => absurd ht e, hsame⟩
      · have e1 : loopQ T stop (fun k x => eQ { x with D := commaD T k x.D }) (F' + 1) (k + 1) (eQ x) = loopQ T stop (fun k x => eQ { x with D := commaD T k x.D }) F' (k + 1 + 1) (eQ { eQ x with D := signD T [44] (eQ x).D }) := by
          rw [loopQ, if_pos ⟨h3.at_.e, by rw [hsees, decide_eq_false ht]⟩]
          rfl
        rw [e1]
        by_cases hm : (hd (eG y).1.ts).text = [44]
        · have e2 : listG eG (f + 1) y = listG eG f { (eG y).1 with ts := (eG y).1.ts.tail } := by rw [listG, if_neg (not_not_intro he), if_pos hm]
          rw [e2]
          have h5 : SimL T { eQ x with D := signD T [44] (eQ x).D } { (eG y).1 with ts := (eG y).1.ts.tail } := ⟨h3.at_.signYes hT rfl (by decide) (by decide) hm, h3.inn, h3.nt, h3.out⟩
          have htl := tail_len h3.at_.good
          have h6 := ih _ _ (k + 1) F' h5 (by simp only; omega) (by simp only; omega)
          exact ⟨h6.bad, h6.ok, h6.no, (hsame.trans (signD_same T [44] _)).trans h6.same⟩
        · have e2 : listG eG (f + 1) y = ((eG y).1, 0) := by rw [listG, if_neg (not_not_intro he), if_neg hm]
          have h5 := h3.at_.signNo hT (s := [44]) rfl (by decide) (by decide) hm
          have h6 := h5.frz (hE.frz { eQ x with D := signD T [44] (eQ x).D })
          rw [e2, loopQ_frz _ _ _ (by rw [h6.e]; decide)]
          exact ⟨fun e => absurd rfl e, fun _ e => absurd e ht, fun _ _ => h6, (hsame.trans (signD_same T [44] _)).trans (hE.same { eQ x with D := signD T [44] (eQ x).D })⟩
    · have hb := hE.bad x y h he
      have e2 : listG eG (f + 1) y = eG y := by rw [listG, if_pos he]
      rw [e2, loopQ_frz _ _ _ (by rw [hb.e]; exact hb.ne)]
      exact ⟨fun _ => hb, fun e => absurd e he, fun e => absurd e he, hE.same x⟩

theorem top_sim (hE : SimE T eQ eG) (hT : AllTok T) (hs : stop = c :: r) (h1 : isSmall c = false) (h2 : isDigit c = false) (hc : stop ≠ [44]) (x : LQ) (y : LS) (h : SimL T x y) :
    SimT T stop x (loopQ T stop (fun k x => eQ { x with D := commaD T k x.D }) (fuelQ T x.D) 0 x) (listTop eG stop y) := by
  have hlen : fuelQ T x.D = y.ts.length + 1 := by unfold fuelQ; rw [if_pos h.at_.e, ← h.at_.drop, List.length_drop]
  have hsees := h.at_.seesS hT hs h1 h2
  rw [hlen]
  by_cases ht : (hd y.ts).text = stop
  · have e1 : loopQ T stop (fun k x => eQ { x with D := commaD T k x.D }) (y.ts.length + 1) 0 x = x := by
      unfold loopQ; rw [if_neg (fun e => by rw [hsees, decide_eq_true ht] at e; cases e.2)]
    have e2 : listTop eG stop y = (y, 0) := by unfold listTop; rw [if_pos ht]
    rw [e1, e2]
    exact ⟨fun e => absurd rfl e, fun _ _ => h, fun _ e => absurd ht e, Same2.refl _⟩
  · have e1 : loopQ T stop (fun k x => eQ { x with D := commaD T k x.D }) (y.ts.length + 1) 0 x = loopQ T stop (fun k x => eQ { x with D := commaD T k x.D }) y.ts.length (0 + 1) (eQ x) := by
      rw [loopQ, if_pos ⟨h.at_.e, by rw [hsees, decide_eq_false ht]⟩]
      rfl
    have e2 : listTop eG stop y = listG eG y.ts.length y := by unfold listTop; rw [if_neg ht]
    rw [e1, e2]
    exact loop_sim hE hT hs h1 h2 hc y.ts.length x y 0 y.ts.length h (Nat.le_refl _) (Nat.le_refl _)
end
end Go.Proofs.Ytfiielibnnodkaa

/-! ## PEqItem -/
namespace Go.Proofs.Ytfiielibnnodkaa
set_option linter.unusedVariables false

/-- both stand at one place, with the same net -/
structure SimI (T : List Tok) (D : QD) (n : Nt) (ts : List Tok) : Prop where
  at_ : At T D ts
  n : D.n = n
  told : Told D

theorem longD_frz (T : List Tok) (b : Bool) (D : QD) : Frz D (longD T b D) := by
  unfold longD
  split
  · exact failD_frz T 5 D
  · exact Frz.refl D
theorem optD_frz (T : List Tok) (s : List UInt8) (D : QD) : Frz D (optD T s D).2 := numOpt_frz T s 0 D
theorem optD_same (T : List Tok) (s : List UInt8) (D : QD) : Same2 D (optD T s D).2 := numOpt_same T s 0 D
theorem Bad.of_eq {D D' : QD} {er : Int} {ts : List Tok} (h : Bad D er ts) (h1 : D'.e = D.e) (h2 : D'.at_ = D.at_) : Bad D' er ts := ⟨h.ne, h1.trans h.e, h2.trans h.at_⟩

theorem hasSB_snoc (l : List ByteArray) (s x : ByteArray) : hasSB (l ++ [s]) x = (hasSB l x || sEq s x) := by unfold hasSB; rw [List.any_append]; simp

section
variable {T ts : List Tok} {D : QD} {n : Nt} {ns : List (List UInt8)}

/-- a place, behind its word -/
theorem place_sim (hT : AllTok T) (h : SimI T (stepD T D) n ts) :
    ((placeG n ts).2.1 = 0 → SimI T (placeQ T D) (placeG n ts).1 (placeG n ts).2.2) ∧ ((placeG n ts).2.1 ≠ 0 → Bad (placeQ T D) (placeG n ts).2.1 (placeG n ts).2.2) := by
  have hn := h.n
  by_cases h32 : n.places.length = 32
  · have eG : placeG n ts = (n, 5, ts) := by unfold placeG; rw [if_pos h32]
    have e2 : placeQ2 T D = failD T 5 (stepD T D) := by unfold placeQ2 longD; rw [hn, decide_eq_true h32, if_pos rfl]
    have hb := h.at_.fail (er := 5) (by decide)
    rw [← e2] at hb
    have hb2 := (hb.frz (nameD_frz T _)).frz (optD_frz T [61] _)
    rw [eG]
    exact ⟨fun e => absurd e (by simp), fun _ => Bad.of_eq hb2 rfl rfl⟩
  · have e2 : placeQ2 T D = stepD T D := by unfold placeQ2 longD; rw [hn, decide_eq_false h32, if_neg (by simp)]
    have hnm := h.at_.name hT h.told
    rw [hn] at hnm
    by_cases he : (nameG n ts).2.1 = 0
    · obtain ⟨a1, a2, a3, a4⟩ := hnm.1 he
      obtain ⟨o1, o2⟩ := a1.num (s := [61]) hT rfl (by decide) (by decide) 0
      by_cases ho : (numG [61] 0 (nameG n ts).2.2).2.1 = 0
      · have eG : placeG n ts = ({ n with places := n.places ++ [⟨⟨(nameG n ts).1.toArray⟩, (numG [61] 0 (nameG n ts).2.2).1⟩] }, 0, (numG [61] 0 (nameG n ts).2.2).2.2) := by unfold placeG; rw [if_neg h32, if_neg (not_not_intro he), if_neg (not_not_intro ho)]
        obtain ⟨b1, b2⟩ := o1 ho
        have hs := optD_same T [61] (nameD T (stepD T D))
        rw [eG]
        refine ⟨fun _ => ?_, fun e => absurd rfl e⟩
        unfold placeQ
        rw [e2, h.at_.hd]
        refine ⟨⟨b1.e, b1.drop, b1.good⟩, ?_, ?_⟩
        · simp only
          rw [hs.1, a3, a2, optD_eq, b2]
          rfl
        · intro x
          simp only
          rw [hs.2, a4, hasSB_snoc, h.told x, hn, hs.1, a3, List.any_append]
          simp only [List.any_cons, List.any_nil, Bool.or_false]
          cases (n.places.any fun p => sEq p.name x) <;> cases (n.trans.any fun t => sEq t.name x) <;> cases sEq (bs (hd ts).text) x <;> rfl
      · have eG : placeG n ts = (n, (numG [61] 0 (nameG n ts).2.2).2.1, (numG [61] 0 (nameG n ts).2.2).2.2) := by unfold placeG; rw [if_neg h32, if_neg (not_not_intro he), if_pos ho]
        have hb := o2 ho
        rw [eG]
        refine ⟨fun e => absurd e ho, fun _ => ?_⟩
        unfold placeQ
        rw [e2]
        exact Bad.of_eq hb rfl rfl
    · have eG : placeG n ts = (n, (nameG n ts).2.1, (nameG n ts).2.2) := by unfold placeG; rw [if_neg h32, if_pos he]
      have hb := (hnm.2 he).frz (optD_frz T [61] _)
      rw [eG]
      refine ⟨fun e => absurd e he, fun _ => ?_⟩
      unfold placeQ
      rw [e2]
      exact Bad.of_eq hb rfl rfl

theorem loopQ_same {T : List Tok} {stop : List UInt8} {one : Nat → LQ → LQ} (ho : ∀ k x, Same2 x.D (one k x).D) (F : Nat) : ∀ (k : Nat) (x : LQ), Same2 x.D (loopQ T stop one F k x).D := by
  induction F with
  | zero => intro k x; exact Same2.refl _
  | succ F ih =>
    intro k x
    rw [loopQ]
    split
    · exact (ho k x).trans (ih (k + 1) (one k x))
    · exact Same2.refl _
theorem commaD_same (T : List Tok) (k : Nat) (D : QD) : Same2 D (commaD T k D) := by
  unfold commaD
  split
  · exact signD_same T [44] D
  · exact Same2.refl D
theorem lists_same {T : List Tok} (hT : AllTok T) (ns : List (List UInt8)) (D : QD) : Same2 D (listsQ T (ns.map bs) D).D := by
  have h1 := loopQ_same (T := T) (stop := [45, 62]) (one := lookQ1 T (ns.map bs)) (fun k x => (commaD_same T k x.D).trans ((look_sim hT ns).same { x with D := commaD T k x.D })) (fuelQ T D) 0 ⟨D, [], [], []⟩
  refine Same2.trans (h1.trans (signD_same T [45, 62] _)) ?_
  exact loopQ_same (T := T) (stop := [59]) (one := outQ1 T (ns.map bs)) (fun k x => (commaD_same T k x.D).trans ((out_sim hT ns).same { x with D := commaD T k x.D })) _ 0 _

/-- the lists, behind the head -/
theorem lists_frz (T : List Tok) (ns : List ByteArray) (D : QD) (h : D.e ≠ 0) : (listsQ T ns D).D.e = D.e ∧ (listsQ T ns D).D.at_ = D.at_ := by
  unfold listsQ
  rw [loopQ_frz (one := lookQ1 T ns) _ _ _ h]
  obtain ⟨h1, h2⟩ := signD_frz T [45, 62] D h
  rw [loopQ_frz (one := outQ1 T ns) _ _ _ (by simp only; rw [h1]; exact h)]
  exact ⟨h1, h2⟩

theorem arcs_sim (hT : AllTok T) (h : At T D ts) : SimT T [59] ⟨D, [], [], []⟩ (listsQ T (ns.map bs) (signD T [58] D)) (arcsG ns ⟨ts, [], [], []⟩) := by
  have hsame := signD_same T [58] D
  have hlook := look_sim hT ns
  have hout := out_sim hT ns
  have hs2 : Same2 D (listsQ T (ns.map bs) (signD T [58] D)).D := hsame.trans (lists_same hT ns _)
  by_cases ht : (hd ts).text = [58]
  · have h1 := h.signYes hT (s := [58]) rfl (by decide) (by decide) ht
    have t1 := top_sim hlook hT (stop := [45, 62]) rfl (by decide) (by decide) (by decide) ⟨signD T [58] D, [], [], []⟩ ⟨ts.tail, [], [], []⟩ ⟨h1, rfl, rfl, rfl⟩
    have eA : arcsG ns ⟨ts, [], [], []⟩ = if (listTop (lookG ns) [45, 62] ⟨ts.tail, [], [], []⟩).2 ≠ 0 then listTop (lookG ns) [45, 62] ⟨ts.tail, [], [], []⟩
        else if (hd (listTop (lookG ns) [45, 62] ⟨ts.tail, [], [], []⟩).1.ts).text = [45, 62] then
          listTop (outG ns) [59] { (listTop (lookG ns) [45, 62] ⟨ts.tail, [], [], []⟩).1 with ts := (listTop (lookG ns) [45, 62] ⟨ts.tail, [], [], []⟩).1.ts.tail }
        else ((listTop (lookG ns) [45, 62] ⟨ts.tail, [], [], []⟩).1, 6) := by unfold arcsG; rw [if_pos ht]
    have eL : listsQ T (ns.map bs) (signD T [58] D) = loopQ T [59] (outQ1 T (ns.map bs)) (fuelQ T (signD T [45, 62] (loopQ T [45, 62] (lookQ1 T (ns.map bs)) (fuelQ T (signD T [58] D)) 0 ⟨signD T [58] D, [], [], []⟩).D)) 0 { loopQ T [45, 62] (lookQ1 T (ns.map bs)) (fuelQ T (signD T [58] D)) 0 ⟨signD T [58] D, [], [], []⟩ with D := signD T [45, 62] (loopQ T [45, 62] (lookQ1 T (ns.map bs)) (fuelQ T (signD T [58] D)) 0 ⟨signD T [58] D, [], [], []⟩).D } := rfl
    have t1' : SimT T [45, 62] ⟨signD T [58] D, [], [], []⟩ (loopQ T [45, 62] (lookQ1 T (ns.map bs)) (fuelQ T (signD T [58] D)) 0 ⟨signD T [58] D, [], [], []⟩) (listTop (lookG ns) [45, 62] ⟨ts.tail, [], [], []⟩) := t1
    clear t1
    generalize listTop (lookG ns) [45, 62] ⟨ts.tail, [], [], []⟩ = g at eA t1'
    generalize loopQ T [45, 62] (lookQ1 T (ns.map bs)) (fuelQ T (signD T [58] D)) 0 ⟨signD T [58] D, [], [], []⟩ = q at eL t1'
    have hfr : ∀ er us, Bad q.D er us → Bad (listsQ T (ns.map bs) (signD T [58] D)).D er us := fun er us hb => by
      have hb2 := hb.frz (signD_frz T [45, 62] _)
      rw [eL, loopQ_frz _ _ _ (by simp only; rw [hb2.e]; exact hb2.ne)]
      exact hb2
    by_cases hg : g.2 = 0
    · rw [if_neg (not_not_intro hg)] at eA
      by_cases hm : (hd g.1.ts).text = [45, 62]
      · rw [if_pos hm] at eA
        have s1 := t1'.ok hg hm
        have s2 : SimL T { q with D := signD T [45, 62] q.D } { g.1 with ts := g.1.ts.tail } := ⟨s1.at_.signYes hT rfl (by decide) (by decide) hm, s1.inn, s1.nt, s1.out⟩
        have t2 := top_sim hout hT (stop := [59]) rfl (by decide) (by decide) (by decide) _ _ s2
        rw [eA, eL]
        rw [eL] at hs2
        exact ⟨t2.bad, t2.ok, t2.no, hs2⟩
      · rw [if_neg hm] at eA
        rw [eA]
        have hb := hfr _ _ (t1'.no hg hm)
        exact ⟨fun _ => hb, fun e => absurd e (by simp), fun e => absurd e (by simp), hs2⟩
    · rw [if_pos hg] at eA
      rw [eA]
      exact ⟨fun e => hfr _ _ (t1'.bad e), fun e => absurd e hg, fun e => absurd e hg, hs2⟩
  · have eA : arcsG ns ⟨ts, [], [], []⟩ = (⟨ts, [], [], []⟩, 6) := by unfold arcsG; rw [if_neg ht]
    have hb := h.signNo hT (s := [58]) rfl (by decide) (by decide) ht
    obtain ⟨f1, f2⟩ := lists_frz T (ns.map bs) (signD T [58] D) (by rw [hb.e]; decide)
    rw [eA]
    exact ⟨fun _ => hb.of_eq f1 f2, fun e => absurd e (by simp), fun e => absurd e (by simp), hs2⟩

/-- a transition, behind its word -/
theorem trans_sim (hT : AllTok T) (h : SimI T (stepD T D) n ts) :
    ((transG ns n ts).2.1 = 0 → (hd (transG ns n ts).2.2).text = [59] → SimI T (transQ T (ns.map bs) D) (transG ns n ts).1 (transG ns n ts).2.2) ∧
    ((transG ns n ts).2.1 = 0 → ¬ (hd (transG ns n ts).2.2).text = [59] → Bad (transQ T (ns.map bs) D) 6 (transG ns n ts).2.2) ∧
    ((transG ns n ts).2.1 ≠ 0 → Bad (transQ T (ns.map bs) D) (transG ns n ts).2.1 (transG ns n ts).2.2) := by
  have hn := h.n
  have hfr : ∀ er us, Bad (headQ T D).2 er us → Bad (transQ T (ns.map bs) D) er us := fun er us hb => by
    obtain ⟨f1, f2⟩ := lists_frz T (ns.map bs) (headQ T D).2 (by rw [hb.e]; exact hb.ne)
    exact Bad.of_eq (hb.of_eq f1 f2) rfl rfl
  by_cases h32 : n.trans.length = 32
  · have eG : transG ns n ts = (n, 5, ts) := by unfold transG; rw [if_pos h32]
    have e2 : transQ2 T D = failD T 5 (stepD T D) := by unfold transQ2 longD; rw [hn, decide_eq_true h32, if_pos rfl]
    have hb := h.at_.fail (er := 5) (by decide)
    rw [← e2] at hb
    have hb2 := (((hb.frz (nameD_frz T _)).frz (optD_frz T [64] _)).frz (optD_frz T [33] _)).frz (signD_frz T [58] _)
    rw [eG]
    exact ⟨fun e => absurd e (by simp), fun e => absurd e (by simp), fun _ => hfr _ _ hb2⟩
  · have e2 : transQ2 T D = stepD T D := by unfold transQ2 longD; rw [hn, decide_eq_false h32, if_neg (by simp)]
    have hnm := h.at_.name hT h.told
    rw [hn] at hnm
    have eT : ∀ {a : Int}, (headG n ts).2.1 ≠ 0 → transG ns n ts = (n, (headG n ts).2.1, (headG n ts).2.2) := fun {a} e => by unfold transG; rw [if_neg h32, if_pos e]
    by_cases he : (nameG n ts).2.1 = 0
    · obtain ⟨a1, a2, a3, a4⟩ := hnm.1 he
      obtain ⟨o1, o2⟩ := a1.num (s := [64]) hT rfl (by decide) (by decide) 0
      by_cases ho : (numG [64] 0 (nameG n ts).2.2).2.1 = 0
      · obtain ⟨b1, b2⟩ := o1 ho
        obtain ⟨p1, p2⟩ := b1.num (s := [33]) hT rfl (by decide) (by decide) 0
        by_cases hp : (numG [33] 0 (numG [64] 0 (nameG n ts).2.2).2.2).2.1 = 0
        · obtain ⟨c1, c2⟩ := p1 hp
          have eH : headG n ts = (((nameG n ts).1, (numG [64] 0 (nameG n ts).2.2).1, (numG [33] 0 (numG [64] 0 (nameG n ts).2.2).2.2).1), 0, (numG [33] 0 (numG [64] 0 (nameG n ts).2.2).2.2).2.2) := by unfold headG; rw [if_neg (not_not_intro he), if_neg (not_not_intro ho), if_neg (not_not_intro hp)]
          have eQ : headQ T D = ((bs (hd ts).text, (numG [64] 0 (nameG n ts).2.2).1, (numG [33] 0 (numG [64] 0 (nameG n ts).2.2).2.2).1), signD T [58] (numOpt T [33] 0 (numOpt T [64] 0 (nameD T (stepD T D))).2).2) := by
            unfold headQ; rw [e2, h.at_.hd, optD_eq, optD_eq, b2, c2]
          have hA := arcs_sim (ns := ns) hT c1
          have hs := ((numOpt_same T [64] 0 (nameD T (stepD T D))).trans (numOpt_same T [33] 0 _)).trans hA.same
          have eG : transG ns n ts = if (arcsG ns ⟨(numG [33] 0 (numG [64] 0 (nameG n ts).2.2).2.2).2.2, [], [], []⟩).2 ≠ 0 then (n, (arcsG ns ⟨(numG [33] 0 (numG [64] 0 (nameG n ts).2.2).2.2).2.2, [], [], []⟩).2, (arcsG ns ⟨(numG [33] 0 (numG [64] 0 (nameG n ts).2.2).2.2).2.2, [], [], []⟩).1.ts)
              else ({ n with trans := n.trans ++ [⟨bs (nameG n ts).1, (numG [64] 0 (nameG n ts).2.2).1, (numG [33] 0 (numG [64] 0 (nameG n ts).2.2).2.2).1, (arcsG ns ⟨(numG [33] 0 (numG [64] 0 (nameG n ts).2.2).2.2).2.2, [], [], []⟩).1.inn, (arcsG ns ⟨(numG [33] 0 (numG [64] 0 (nameG n ts).2.2).2.2).2.2, [], [], []⟩).1.nt, (arcsG ns ⟨(numG [33] 0 (numG [64] 0 (nameG n ts).2.2).2.2).2.2, [], [], []⟩).1.out⟩] }, 0, (arcsG ns ⟨(numG [33] 0 (numG [64] 0 (nameG n ts).2.2).2.2).2.2, [], [], []⟩).1.ts) := by
            unfold transG; rw [if_neg h32, eH]; rfl
          have eX : transQ T (ns.map bs) D = { (listsQ T (ns.map bs) (signD T [58] (numOpt T [33] 0 (numOpt T [64] 0 (nameD T (stepD T D))).2).2)).D with n := ⟨(listsQ T (ns.map bs) (signD T [58] (numOpt T [33] 0 (numOpt T [64] 0 (nameD T (stepD T D))).2).2)).D.n.places, (listsQ T (ns.map bs) (signD T [58] (numOpt T [33] 0 (numOpt T [64] 0 (nameD T (stepD T D))).2).2)).D.n.trans ++ [⟨bs (hd ts).text, (numG [64] 0 (nameG n ts).2.2).1, (numG [33] 0 (numG [64] 0 (nameG n ts).2.2).2.2).1, (listsQ T (ns.map bs) (signD T [58] (numOpt T [33] 0 (numOpt T [64] 0 (nameD T (stepD T D))).2).2)).inn, (listsQ T (ns.map bs) (signD T [58] (numOpt T [33] 0 (numOpt T [64] 0 (nameD T (stepD T D))).2).2)).nt, (listsQ T (ns.map bs) (signD T [58] (numOpt T [33] 0 (numOpt T [64] 0 (nameD T (stepD T D))).2).2)).out⟩]⟩ } := by
            unfold transQ; rw [eQ]
          generalize arcsG ns ⟨(numG [33] 0 (numG [64] 0 (nameG n ts).2.2).2.2).2.2, [], [], []⟩ = g at eG hA
          generalize listsQ T (ns.map bs) (signD T [58] (numOpt T [33] 0 (numOpt T [64] 0 (nameD T (stepD T D))).2).2) = L at eX hA hs
          by_cases hg : g.2 = 0
          · rw [if_neg (not_not_intro hg)] at eG
            rw [eG, eX]
            refine ⟨fun _ ht => ?_, fun _ ht => Bad.of_eq (hA.no hg ht) rfl rfl, fun e => absurd rfl e⟩
            have s1 := hA.ok hg ht
            refine ⟨⟨s1.at_.e, s1.at_.drop, s1.at_.good⟩, ?_, ?_⟩
            · simp only
              rw [hs.1, a3, a2, s1.inn, s1.nt, s1.out]
            · intro x
              simp only
              rw [hs.2, a4, hasSB_snoc, h.told x, hn, hs.1, a3, List.any_append]
              simp only [List.any_cons, List.any_nil, Bool.or_false]
              cases (n.places.any fun p => sEq p.name x) <;> cases (n.trans.any fun t => sEq t.name x) <;> cases sEq (bs (hd ts).text) x <;> rfl
          · rw [if_pos hg] at eG
            rw [eG, eX]
            exact ⟨fun e => absurd e hg, fun e => absurd e hg, fun e => Bad.of_eq (hA.bad e) rfl rfl⟩
        · have eH : headG n ts = (([], 0, 0), (numG [33] 0 (numG [64] 0 (nameG n ts).2.2).2.2).2.1, (numG [33] 0 (numG [64] 0 (nameG n ts).2.2).2.2).2.2) := by unfold headG; rw [if_neg (not_not_intro he), if_neg (not_not_intro ho), if_pos hp]
          have eG := eT (a := 0) (by rw [eH]; exact hp)
          rw [eH] at eG
          have hb := (p2 hp).frz (signD_frz T [58] _)
          rw [eG]
          refine ⟨fun e => absurd e hp, fun e => absurd e hp, fun _ => hfr _ _ ?_⟩
          unfold headQ
          rw [e2]
          exact hb
      · have eH : headG n ts = (([], 0, 0), (numG [64] 0 (nameG n ts).2.2).2.1, (numG [64] 0 (nameG n ts).2.2).2.2) := by unfold headG; rw [if_neg (not_not_intro he), if_pos ho]
        have eG := eT (a := 0) (by rw [eH]; exact ho)
        rw [eH] at eG
        have hb := ((o2 ho).frz (optD_frz T [33] _)).frz (signD_frz T [58] _)
        rw [eG]
        refine ⟨fun e => absurd e ho, fun e => absurd e ho, fun _ => hfr _ _ ?_⟩
        unfold headQ
        rw [e2]
        exact hb
    · have eH : headG n ts = (([], 0, 0), (nameG n ts).2.1, (nameG n ts).2.2) := by unfold headG; rw [if_pos he]
      have eG := eT (a := 0) (by rw [eH]; exact he)
      rw [eH] at eG
      have hb := (((hnm.2 he).frz (optD_frz T [64] _)).frz (optD_frz T [33] _)).frz (signD_frz T [58] _)
      rw [eG]
      refine ⟨fun e => absurd e he, fun e => absurd e he, fun _ => hfr _ _ ?_⟩
      unfold headQ
      rw [e2]
      exact hb

theorem item_sim (hT : AllTok T) (h : SimI T D n ts) (hk : (hd ts).kind ≠ 0) :
    ((itemG ns n ts).2.1 = 0 → (hd (itemG ns n ts).2.2).text = [59] → SimI T (itemQ T (ns.map bs) D) (itemG ns n ts).1 (itemG ns n ts).2.2.tail ∧ (itemG ns n ts).2.2.tail.length < ts.length) ∧
    ((itemG ns n ts).2.1 = 0 → ¬ (hd (itemG ns n ts).2.2).text = [59] → Bad (itemQ T (ns.map bs) D) 6 (itemG ns n ts).2.2) ∧
    ((itemG ns n ts).2.1 ≠ 0 → Bad (itemQ T (ns.map bs) D) (itemG ns n ts).2.1 (itemG ns n ts).2.2) := by
  have hgt := h.at_.good.tailK hk
  have h1 : SimI T (stepD T D) n ts.tail := by
    have hs := stepD_same T D
    exact ⟨h.at_.step hgt, hs.1.trans h.n, fun x => by rw [hs.2, hs.1]; exact h.told x⟩
  have htl := tail_len h.at_.good
  by_cases hp : (hd ts).text = wPlace
  · have e1 : itemG ns n ts = placeG n ts.tail := by unfold itemG; rw [if_pos hp]
    have e2 : itemQ T (ns.map bs) D = signD T [59] (placeQ T D) := by unfold itemQ; rw [h.at_.seesW (s := wPlace) hT (c := 112) (r := [108, 97, 99, 101]) rfl (by decide), decide_eq_true hp, if_pos rfl]
    have hr := (placeG_rest (n := n) hgt)
    obtain ⟨q1, q2⟩ := place_sim hT h1
    rw [e1, e2]
    refine ⟨fun he ht => ?_, fun he ht => ?_, fun he => (q2 he).frz (signD_frz T [59] _)⟩
    · have s1 := q1 he
      have hs := signD_same T [59] (placeQ T D)
      refine ⟨⟨s1.at_.signYes hT rfl (by decide) (by decide) ht, hs.1.trans s1.n, fun x => by rw [hs.2, hs.1]; exact s1.told x⟩, ?_⟩
      have := tail_len hr.1
      have := hr.2.1
      omega
    · exact (q1 he).at_.signNo hT rfl (by decide) (by decide) ht
  · by_cases ht2 : (hd ts).text = wTrans
    · have e1 : itemG ns n ts = transG ns n ts.tail := by unfold itemG; rw [if_neg hp, if_pos ht2]
      have e2 : itemQ T (ns.map bs) D = signD T [59] (transQ T (ns.map bs) D) := by
        unfold itemQ
        rw [h.at_.seesW (s := wPlace) hT (c := 112) (r := [108, 97, 99, 101]) rfl (by decide), decide_eq_false hp, if_neg (by simp), h.at_.seesW (s := wTrans) hT (c := 116) (r := [114, 97, 110, 115]) rfl (by decide), decide_eq_true ht2, if_pos rfl]
      have hr := (transG_rest (ns := ns) (n := n) hgt)
      obtain ⟨q1, q2, q3⟩ := trans_sim (ns := ns) hT h1
      rw [e1, e2]
      refine ⟨fun he ht => ?_, fun he ht => (q2 he ht).frz (signD_frz T [59] _), fun he => (q3 he).frz (signD_frz T [59] _)⟩
      have s1 := q1 he ht
      have hs := signD_same T [59] (transQ T (ns.map bs) D)
      refine ⟨⟨s1.at_.signYes hT rfl (by decide) (by decide) ht, hs.1.trans s1.n, fun x => by rw [hs.2, hs.1]; exact s1.told x⟩, ?_⟩
      have := tail_len hr.1
      have := hr.2.1
      omega
    · have e1 : itemG ns n ts = (n, 6, ts) := by unfold itemG; rw [if_neg hp, if_neg ht2]
      have e2 : itemQ T (ns.map bs) D = signD T [59] (failD T 6 D) := by
        unfold itemQ
        rw [h.at_.seesW (s := wPlace) hT (c := 112) (r := [108, 97, 99, 101]) rfl (by decide), decide_eq_false hp, if_neg (by simp), h.at_.seesW (s := wTrans) hT (c := 116) (r := [114, 97, 110, 115]) rfl (by decide), decide_eq_false ht2, if_neg (by simp)]
      rw [e1, e2]
      exact ⟨fun e => absurd e (by simp), fun e => absurd e (by simp), fun _ => (h.at_.fail (er := 6) (by decide)).frz (signD_frz T [59] _)⟩

theorem itemsQ_frz (T : List Tok) (ns : List ByteArray) (F : Nat) (D : QD) (h : D.e ≠ 0) : itemsQ T ns F D = D := by
  cases F with
  | zero => rfl
  | succ F => unfold itemsQ; rw [if_neg (fun e => h e.1)]

theorem items_sim (hT : AllTok T) (f : Nat) : ∀ (D : QD) (n : Nt) (ts : List Tok) (F : Nat), SimI T D n ts → ts.length ≤ f → ts.length ≤ F →
    ((itemsG ns f n ts).2.1 = 0 → (itemsQ T (ns.map bs) F D).e = 0 ∧ (itemsQ T (ns.map bs) F D).n = (itemsG ns f n ts).1) ∧
    ((itemsG ns f n ts).2.1 ≠ 0 → Bad (itemsQ T (ns.map bs) F D) (itemsG ns f n ts).2.1 (itemsG ns f n ts).2.2) := by
  induction f with
  | zero => intro D n ts F h hf; have := h.at_.good.len; omega
  | succ f ih =>
    intro D n ts F h hf hF
    obtain ⟨F', rfl⟩ : ∃ F', F = F' + 1 := ⟨F - 1, by have := h.at_.good.len; omega⟩
    by_cases hk : (hd ts).kind = 0
    · have e1 : itemsG ns (f + 1) n ts = (n, 0, ts) := by rw [itemsG, if_pos hk]
      have e2 : itemsQ T (ns.map bs) (F' + 1) D = D := by rw [itemsQ, if_neg (fun e => by have := e.2; rw [h.at_.hd] at this; exact this hk)]
      rw [e1, e2]
      exact ⟨fun _ => ⟨h.at_.e, h.n⟩, fun e => absurd rfl e⟩
    · have e2 : itemsQ T (ns.map bs) (F' + 1) D = itemsQ T (ns.map bs) F' (itemQ T (ns.map bs) D) := by rw [itemsQ, if_pos ⟨h.at_.e, by rw [h.at_.hd]; exact hk⟩]
      obtain ⟨q1, q2, q3⟩ := item_sim (ns := ns) hT h hk
      rw [e2]
      by_cases he : (itemG ns n ts).2.1 = 0
      · by_cases ht : (hd (itemG ns n ts).2.2).text = [59]
        · have e1 : itemsG ns (f + 1) n ts = itemsG ns f (itemG ns n ts).1 (itemG ns n ts).2.2.tail := by rw [itemsG, if_neg hk, if_neg (not_not_intro he), if_pos ht]
          obtain ⟨s1, s2⟩ := q1 he ht
          rw [e1]
          exact ih _ _ _ F' s1 (by omega) (by omega)
        · have e1 : itemsG ns (f + 1) n ts = ((itemG ns n ts).1, 6, (itemG ns n ts).2.2) := by rw [itemsG, if_neg hk, if_neg (not_not_intro he), if_neg ht]
          have hb := q2 he ht
          rw [e1, itemsQ_frz _ _ _ _ (by rw [hb.e]; decide)]
          exact ⟨fun e => absurd e (by simp), fun _ => hb⟩
      · have e1 : itemsG ns (f + 1) n ts = itemG ns n ts := by rw [itemsG, if_neg hk, if_pos he]
        have hb := q3 he
        rw [e1, itemsQ_frz _ _ _ _ (by rw [hb.e]; exact hb.ne)]
        exact ⟨fun e => absurd e he, fun _ => hb⟩
end

def startD : QD := ⟨0, 0, 0, ⟨[], []⟩, []⟩
/-- what the document's own parser comes to -/
def endD (T : List Tok) : QD := itemsQ T (numsQ [] T) (fuelQ T startD) startD

/-- THE TWO PARSERS COME TO THE SAME -/
theorem parse_same {T : List Tok} (hg : Good T) (hT : AllTok T) :
    (∃ n, parseT T = .ok n ∧ (endD T).e = 0 ∧ (endD T).n = n) ∨ (∃ er p, parseT T = .error (er, p) ∧ er ≠ 0 ∧ (endD T).e = er ∧ (endD T).at_ = (p : Int)) := by
  have hS : SimI T startD ⟨[], []⟩ T := ⟨⟨rfl, rfl, hg⟩, rfl, fun x => rfl⟩
  have hns := nums_same T [] hg hT
  have hf : fuelQ T startD = T.length + 1 := by unfold fuelQ startD; simp
  obtain ⟨q1, q2⟩ := items_sim (ns := numsG [] T) hT T.length startD ⟨[], []⟩ T (T.length + 1) hS (Nat.le_refl _) (by omega)
  have hE : endD T = itemsQ T ((numsG [] T).map bs) (T.length + 1) startD := by unfold endD; rw [hf, ← hns]; rfl
  unfold parseT
  rw [hE]
  by_cases he : (itemsG (numsG [] T) T.length ⟨[], []⟩ T).2.1 = 0
  · rw [if_neg (not_not_intro he)]
    obtain ⟨r1, r2⟩ := q1 he
    exact .inl ⟨_, rfl, r1, r2⟩
  · rw [if_pos he]
    have hb := q2 he
    exact .inr ⟨_, _, rfl, he, hb.e, hb.at_⟩
end Go.Proofs.Ytfiielibnnodkaa

/-! ## PSames -/
/-! ## PEat -/
namespace Go.Proofs.Ytfiielibnnodkaa
set_option linter.unusedVariables false

theorem sEq_refl' (s : ByteArray) : sEq s s = true := by simp [sEq]

/-- what lies between names no place -/
def Eat (a b : List Tok) : Prop := ∀ acc, numsG acc a = numsG acc b
theorem Eat.refl (a : List Tok) : Eat a a := fun _ => rfl
theorem Eat.trans {a b c : List Tok} (h : Eat a b) (k : Eat b c) : Eat a c := fun acc => (h acc).trans (k acc)

section
variable {a : List Tok}

theorem eat_one (hg : Good a) (h : ¬ ((hd a).text = wPlace ∧ (hd a.tail).kind = 1)) : Eat a a.tail := by
  intro acc
  obtain ⟨r, e, e2⟩ := hg.cons
  generalize hd a = t at e h
  subst e
  rw [numsG, if_neg (fun e => h ⟨e.1, e.2.1⟩)]
  rfl
theorem eat_text (hg : Good a) (h : (hd a).text ≠ wPlace) : Eat a a.tail := eat_one hg (fun e => h e.1)
theorem AllTok.tail (h : AllTok a) : AllTok a.tail := fun t ht => h t (List.mem_of_mem_tail ht)
theorem AllTok.suf {b : List Tok} (h : AllTok a) (hs : b <:+ a) : AllTok b := fun t ht => h t (hs.subset ht)
theorem alltok_hd0 (h : AllTok a) (hg : Good a) : ((hd a).kind = 0 ∧ (hd a).text = []) ∨ TokOk (hd a) := by
  have := h.hd (i := 0) (by simpa using hg)
  simpa using this
theorem kind3 (h : AllTok a) (hg : Good a) {s : List UInt8} {c : UInt8} {r : List UInt8} (ht : (hd a).text = s) (hs : s = c :: r) (h1 : isSmall c = false) (h2 : isDigit c = false) : (hd a).kind = 3 := kind_sign (alltok_hd0 h hg) (ht.trans hs) h1 h2
theorem not_word (h : AllTok a) (hg : Good a) (hk : (hd a).kind ≠ 1) : (hd a).text ≠ wPlace := fun e => hk (kind_word (alltok_hd0 h hg) (c := 112) (r := [108, 97, 99, 101]) e (by decide))
theorem eat_kind (h : AllTok a) (hg : Good a) (hk : (hd a).kind ≠ 1) : Eat a a.tail := eat_text hg (not_word h hg hk)

theorem numG_eat (h : AllTok a) (hg : Good a) {s : List UInt8} {c : UInt8} {r : List UInt8} {least : Int} (hs : s = c :: r) (h1 : isSmall c = false) (h2 : isDigit c = false) (he : (numG s least a).2.1 = 0) :
    Eat a (numG s least a).2.2 ∧ ((numG s least a).2.2 = a ∨ (hd a).kind = 3) := by
  unfold numG at he ⊢
  split
  · rename_i ht
    have hk := kind3 h hg ht hs h1 h2
    have hg2 := hg.tailT (by rw [ht, hs]; simp)
    rw [if_pos ht] at he
    split
    · rename_i b; rw [if_pos b] at he; cases he
    · rename_i b
      rw [if_neg b] at he
      split
      · rename_i c'; rw [if_pos c'] at he; cases he
      · have hk2 : (hd a.tail).kind = 2 := Classical.byContradiction b
        exact ⟨(eat_kind h hg (by rw [hk]; decide)).trans (eat_kind h.tail hg2 (by rw [hk2]; decide)), .inr hk⟩
  · exact ⟨Eat.refl _, .inl rfl⟩

theorem arcG_eat {ns : List (List UInt8)} {l : List (Int × Int)} (h : AllTok a) (hg : Good a) (he : (arcG ns l a).2.1 = 0) (hk : (hd (arcG ns l a).2.2).kind ≠ 1) : Eat a (arcG ns l a).2.2 := by
  by_cases h1 : (hd a).kind = 1
  · have hg2 := hg.tailK (by rw [h1]; decide)
    have e : (numG [42] 1 a.tail).2.1 = 0 ∧ (arcG ns l a).2.2 = (numG [42] 1 a.tail).2.2 := by
      unfold arcG at he ⊢
      rw [if_neg (not_not_intro h1)] at he ⊢
      split
      · rename_i b; rw [if_pos b] at he; cases he
      · rename_i b
        rw [if_neg b] at he
        split
        · rename_i c; rw [if_pos c] at he; cases he
        · rename_i c
          rw [if_neg c] at he
          split
          · rename_i d; rw [if_pos d] at he; exact absurd he d
          · rename_i d; exact ⟨Classical.byContradiction d, rfl⟩
    obtain ⟨n1, n2⟩ := numG_eat h.tail hg2 (s := [42]) (least := 1) rfl (by decide) (by decide) e.1
    rw [e.2] at hk ⊢
    refine Eat.trans (eat_one hg (fun q => ?_)) n1
    rcases n2 with n2 | n2
    · rw [n2] at hk; exact hk q.2
    · rw [n2] at q; exact absurd q.2 (by decide)
  · unfold arcG at he
    rw [if_pos h1] at he
    cases he
end

/-- an element's way eats what names no place -/
def EatE (step : LS → LS × Int) : Prop := ∀ y, Good y.ts → AllTok y.ts → (step y).2 = 0 → (hd (step y).1.ts).kind ≠ 1 → Eat y.ts (step y).1.ts

theorem look_eat (ns : List (List UInt8)) : EatE (lookG ns) := by
  intro y hg hT he hk
  unfold lookG at he hk ⊢
  by_cases ht : (hd y.ts).text = [126]
  · rw [if_pos ht] at he hk ⊢
    have h3 := kind3 hT hg ht rfl (by decide) (by decide)
    exact (eat_kind hT hg (by rw [h3]; decide)).trans (arcG_eat hT.tail (hg.tailT (by rw [ht]; simp)) he hk)
  · rw [if_neg ht] at he hk ⊢
    exact arcG_eat hT hg he hk
theorem out_eat (ns : List (List UInt8)) : EatE (outG ns) := fun y hg hT he hk => arcG_eat hT hg he hk

theorem listG_eat {step : LS → LS × Int} (hE : EatE step) (hS : Shrinks step) (f : Nat) : ∀ y, Good y.ts → AllTok y.ts → (listG step f y).2 = 0 → (hd (listG step f y).1.ts).kind ≠ 1 → Eat y.ts (listG step f y).1.ts := by
  induction f with
  | zero => intro y hg hT he; cases he
  | succ f ih =>
    intro y hg hT he hk
    unfold listG at he hk ⊢
    by_cases h1 : (step y).2 = 0
    · rw [if_neg (not_not_intro h1)] at he hk ⊢
      have hr := hS y hg
      have hT2 := hT.suf hr.2.2
      by_cases h2 : (hd (step y).1.ts).text = [44]
      · rw [if_pos h2] at he hk ⊢
        have h3 := kind3 hT2 hr.1 h2 rfl (by decide) (by decide)
        have hr2 := hr.tailT (by rw [h2]; simp)
        exact ((hE y hg hT h1 (by rw [h3]; decide)).trans (eat_kind hT2 hr.1 (by rw [h3]; decide))).trans (ih { (step y).1 with ts := (step y).1.ts.tail } hr2.1 hT2.tail he hk)
      · rw [if_neg h2] at he hk ⊢
        exact hE y hg hT h1 hk
    · rw [if_pos h1] at he
      exact absurd he h1
theorem listTop_eat {step : LS → LS × Int} (hE : EatE step) (hS : Shrinks step) (stop : List UInt8) (y : LS) (hg : Good y.ts) (hT : AllTok y.ts) (he : (listTop step stop y).2 = 0) (hk : (hd (listTop step stop y).1.ts).kind ≠ 1) : Eat y.ts (listTop step stop y).1.ts := by
  unfold listTop at he hk ⊢
  by_cases h1 : (hd y.ts).text = stop
  · rw [if_pos h1]; exact Eat.refl _
  · rw [if_neg h1] at he hk ⊢
    exact listG_eat hE hS _ y hg hT he hk

theorem arcsG_eat {ns : List (List UInt8)} {y : LS} (hg : Good y.ts) (hT : AllTok y.ts) (he : (arcsG ns y).2 = 0) (hk : (hd (arcsG ns y).1.ts).kind ≠ 1) : (hd y.ts).kind = 3 ∧ Eat y.ts (arcsG ns y).1.ts := by
  unfold arcsG at he hk ⊢
  by_cases h1 : (hd y.ts).text = [58]
  · rw [if_pos h1] at he hk ⊢
    have h3 := kind3 hT hg h1 rfl (by decide) (by decide)
    have hg2 := hg.tailT (by rw [h1]; simp)
    have hr := listTop_rest (fun x h => lookG_rest (ns := ns) h) [45, 62] { y with ts := y.ts.tail } hg2
    have hT2 := hT.tail.suf hr.2.2
    have hL := listTop_eat (look_eat ns) (fun x h => lookG_rest (ns := ns) h) [45, 62] { y with ts := y.ts.tail } hg2 hT.tail
    by_cases h4 : (listTop (lookG ns) [45, 62] { y with ts := y.ts.tail }).2 = 0
    · rw [if_neg (not_not_intro h4)] at he hk ⊢
      by_cases h5 : (hd (listTop (lookG ns) [45, 62] { y with ts := y.ts.tail }).1.ts).text = [45, 62]
      · rw [if_pos h5] at he hk ⊢
        have h6 := kind3 hT2 hr.1 h5 rfl (by decide) (by decide)
        have hr2 := hr.1.tailT (by rw [h5]; simp)
        refine ⟨h3, (eat_kind hT hg (by rw [h3]; decide)).trans ((hL h4 (by rw [h6]; decide)).trans ((eat_kind hT2 hr.1 (by rw [h6]; decide)).trans ?_))⟩
        exact listTop_eat (out_eat ns) (fun x h => outG_rest (ns := ns) h) [59] { (listTop (lookG ns) [45, 62] { y with ts := y.ts.tail }).1 with ts := (listTop (lookG ns) [45, 62] { y with ts := y.ts.tail }).1.ts.tail } hr2 hT2.tail he hk
      · rw [if_neg h5] at he; cases he
    · rw [if_pos h4] at he; exact absurd he h4
  · rw [if_neg h1] at he; cases he

theorem transG_eat {ns : List (List UInt8)} {n : Nt} {a : List Tok} (hg : Good a) (hT : AllTok a) (he : (transG ns n a).2.1 = 0) (hk : (hd (transG ns n a).2.2).kind ≠ 1) : Eat a (transG ns n a).2.2 := by
  unfold transG at he hk ⊢
  by_cases h1 : n.trans.length = 32
  · rw [if_pos h1] at he; cases he
  · rw [if_neg h1] at he hk ⊢
    by_cases h2 : (headG n a).2.1 = 0
    · rw [if_neg (not_not_intro h2)] at he hk ⊢
      by_cases h3 : (arcsG ns ⟨(headG n a).2.2, [], [], []⟩).2 = 0
      · rw [if_neg (not_not_intro h3)] at hk ⊢
        have hr := headG_rest (n := n) hg
        obtain ⟨k1, k2⟩ := arcsG_eat (ns := ns) (y := ⟨(headG n a).2.2, [], [], []⟩) hr.1 (hT.suf hr.2.2) h3 hk
        refine Eat.trans ?_ k2
        simp only at k1
        unfold headG at h2 k1 ⊢
        by_cases g1 : (nameG n a).2.1 = 0
        · rw [if_neg (not_not_intro g1)] at h2 k1 ⊢
          obtain ⟨m1, m2, m3⟩ := nameG_new g1
          rw [m3] at h2 k1 ⊢
          simp only at h2 k1 ⊢
          have hg2 := hg.tailK (by rw [m1]; decide)
          by_cases g2 : (numG [64] 0 a.tail).2.1 = 0
          · rw [if_neg (not_not_intro g2)] at h2 k1 ⊢
            obtain ⟨e1, e2⟩ := numG_eat hT.tail hg2 (s := [64]) (least := 0) rfl (by decide) (by decide) g2
            have hr2 := numG_rest (s := [64]) (by simp) (least := 0) hg2
            by_cases g3 : (numG [33] 0 (numG [64] 0 a.tail).2.2).2.1 = 0
            · rw [if_neg (not_not_intro g3)] at k1 ⊢
              obtain ⟨e3, e4⟩ := numG_eat (hT.tail.suf hr2.2.2) hr2.1 (s := [33]) (least := 0) rfl (by decide) (by decide) g3
              refine (Eat.trans (eat_one hg (fun q => ?_)) e1).trans e3
              rcases e2 with e2 | e2
              · rw [e2] at e4 k1
                rcases e4 with e4 | e4
                · rw [e4] at k1; rw [k1] at q; exact absurd q.2 (by decide)
                · rw [e4] at q; exact absurd q.2 (by decide)
              · rw [e2] at q; exact absurd q.2 (by decide)
            · rw [if_pos g3] at h2; exact absurd h2 g3
          · rw [if_pos g2] at h2; exact absurd h2 g2
        · rw [if_pos g1] at h2; exact absurd h2 g1
      · rw [if_pos h3] at he; exact absurd he h3
    · rw [if_pos h2] at he; exact absurd he h2

theorem bs_inj {a b : List UInt8} (h : bs a = bs b) : a = b := by
  have := congrArg (fun x : ByteArray => x.data.toList) h
  simpa [bs_data] using this

/-- the places that were read are those that are counted -/
theorem items_nums {ns : List (List UInt8)} (f : Nat) : ∀ (n : Nt) (ts : List Tok) (acc : List (List UInt8)), Good ts → AllTok ts → NetOk ns.length n → n.places.map (·.name) = acc.map bs → (itemsG ns f n ts).2.1 = 0 →
    NetOk ns.length (itemsG ns f n ts).1 ∧ (itemsG ns f n ts).1.places.map (·.name) = (numsG acc ts).map bs := by
  induction f with
  | zero => intro n ts acc hg hT hn ha he; cases he
  | succ f ih =>
    intro n ts acc hg hT hn ha he
    unfold itemsG at he ⊢
    by_cases hk : (hd ts).kind = 0
    · rw [if_pos hk]
      refine ⟨hn, ?_⟩
      match ts, hg, hk with
      | [e], hg, hk =>
        have : ¬ e.text = wPlace := by rw [hg.2]; decide
        rw [numsG, if_neg (fun q => this q.1)]
        exact ha
      | t :: u :: r, hg, hk => exact absurd hk hg.2.1
    · rw [if_neg hk] at he ⊢
      by_cases h1 : (itemG ns n ts).2.1 = 0
      · rw [if_neg (not_not_intro h1)] at he ⊢
        by_cases h2 : (hd (itemG ns n ts).2.2).text = [59]
        · rw [if_pos h2] at he ⊢
          have hr := itemG_rest (ns := ns) (n := n) hg
          have hT2 := hT.suf hr.2.2
          have k3 := kind3 hT2 hr.1 h2 rfl (by decide) (by decide)
          have hr2 := hr.1.tailT (by rw [h2]; simp)
          have hsemi := eat_kind hT2 hr.1 (by rw [k3]; decide)
          have hgt := hg.tailK hk
          by_cases hp : (hd ts).text = wPlace
          · have e1 : itemG ns n ts = placeG n ts.tail := by unfold itemG; rw [if_pos hp]
            rw [e1] at h1 h2 hr hT2 k3 hr2 hsemi he ⊢
            obtain ⟨o1, o2, o3, o4, o5, o6⟩ := placeG_ok hn h1
            have hnot : (hd ts.tail).text ∉ acc := fun hm => by
              have h7 : bs (hd ts.tail).text ∈ n.names := by
                unfold Nt.names
                rw [ha]
                exact List.mem_append_left _ (List.mem_map_of_mem hm)
              have h8 := o6 _ h7
              rw [sEq_refl'] at h8
              cases h8
            have hstep : numsG acc ts = numsG (acc ++ [(hd ts.tail).text]) ts.tail := by
              obtain ⟨r, e, e2⟩ := hg.cons
              rw [← e2] at o3 hnot ⊢
              rw [e, numsG, if_pos ⟨hp, o3, hnot⟩]
            obtain ⟨n1, n2⟩ := numG_eat hT.tail.tail (hgt.tailK (by rw [o3]; decide)) (s := [61]) (least := 0) rfl (by decide) (by decide) o5
            have hword : Eat ts.tail ts.tail.tail := eat_one hgt (fun q => by
              rcases n2 with n2 | n2
              · rw [o4, n2] at k3; rw [k3] at q; exact absurd q.2 (by decide)
              · rw [n2] at q; exact absurd q.2 (by decide))
            have hall : Eat ts.tail (placeG n ts.tail).2.2.tail := (hword.trans (by rw [o4]; exact n1)).trans hsemi
            rw [hstep, hall]
            exact ih _ _ _ hr2 hT2.tail o1 (by rw [o2, ha]; simp) he
          · by_cases ht : (hd ts).text = wTrans
            · have e1 : itemG ns n ts = transG ns n ts.tail := by unfold itemG; rw [if_neg hp, if_pos ht]
              rw [e1] at h1 h2 hr hT2 k3 hr2 hsemi he ⊢
              obtain ⟨o1, o2⟩ := transG_ok hn h1
              have hall : Eat ts (transG ns n ts.tail).2.2.tail := ((eat_text hg hp).trans (transG_eat hgt hT.tail h1 (by rw [k3]; decide))).trans hsemi
              rw [hall]
              exact ih _ _ _ hr2 hT2.tail o1 (by rw [o2, ha]) he
            · have e1 : itemG ns n ts = (n, 6, ts) := by unfold itemG; rw [if_neg hp, if_neg ht]
              rw [e1] at h1
              cases h1
        · rw [if_neg h2] at he; cases he
      · rw [if_pos h1] at he; exact absurd he h1

/-- A NET THAT IS READ MAY BE -/
theorem parse_check {T : List Tok} {n : Nt} (hg : Good T) (hT : AllTok T) (h : parseT T = .ok n) : checkN n = 0 := by
  unfold parseT at h
  by_cases he : (itemsG (numsG [] T) T.length ⟨[], []⟩ T).2.1 = 0
  · rw [if_neg (not_not_intro he)] at h
    injection h with h
    subst h
    obtain ⟨q1, q2⟩ := items_nums (ns := numsG [] T) T.length ⟨[], []⟩ T [] hg hT ⟨by simp, by simp, (fun p hp => by simp at hp), (fun s hs => by simp [Nt.names] at hs), (by simp [Nt.names]), (fun t ht => by simp at ht)⟩ rfl he
    have hl := congrArg List.length q2
    simp only [List.length_map] at hl
    rw [← hl] at q1
    exact checkN_ok q1
  · rw [if_pos he] at h; cases h
end Go.Proofs.Ytfiielibnnodkaa

/-! ## PSame -/
namespace Go.Proofs.Ytfiielibnnodkaa
open Go.RowKit
set_option linter.unusedVariables false

theorem parse_netOk {T : List Tok} {n : Nt} (hg : Good T) (hT : AllTok T) (h : parseT T = .ok n) : NetOk n.places.length n := by
  unfold parseT at h
  by_cases he : (itemsG (numsG [] T) T.length ⟨[], []⟩ T).2.1 = 0
  · rw [if_neg (not_not_intro he)] at h
    injection h with h
    subst h
    obtain ⟨q1, q2⟩ := items_nums (ns := numsG [] T) T.length ⟨[], []⟩ T [] hg hT ⟨by simp, by simp, (fun p hp => by simp at hp), (fun s hs => by simp [Nt.names] at hs), (by simp [Nt.names]), (fun t ht => by simp at ht)⟩ rfl he
    have hl := congrArg List.length q2
    simp only [List.length_map] at hl
    rw [← hl] at q1
    exact q1
  · rw [if_pos he] at h; cases h

theorem LexOk.all {p : Nat} {l : List UInt8} {T : List Tok} (h : LexOk p l T) : AllTok T := fun t ht => (h.each t ht).2.2

/-- what the document's own parser says -/
def RPOut (w' : World) (l : List UInt8) (v : Value) : Prop :=
  (∃ (er : Int) (p : Nat), parseL l = .error (er, p) ∧ er ≠ 0 ∧ v = .tuple #[.agg #[.slice none 0 0, .slice none 0 0], .int .i64 er, .int .i64 (p : Int)]) ∨
  (∃ n vp vt, parseL l = .ok n ∧ NetAt w' vp vt n ∧ v = .tuple #[.agg #[vp, vt], .int .i64 0, .int .i64 0])
def RParseSays : Prop := ∀ (w : World) (A : Option Addr) (n c : Nat) (l : List UInt8), BytesAt w A n l → n ≤ c → n ≤ 800000 →
  Calls Try.prog 27 #[.slice A n c] w fun e w' => ∃ v, e = .returned v ∧ RPOut w' l v ∧ Below w.heap.size w w'

section
variable {w : World} {A : Option Addr} {n c : Nat} {l : List UInt8}

set_option maxRecDepth 100000 in
set_option maxHeartbeats 2000000 in
theorem same6_any (hR : RParseSays) (h : BytesAt w A n l) (hc : n ≤ c) (hn : n ≤ 800000) :
    Calls Try.prog 15 #[.slice A n c] w fun e w' => e = .returned (.bool true) ∧ Below w.heap.size w w' := by
  have hll := h.len
  have H := Lib.hid h
  have HR := Lib.hid hR
  have Hn := Lib.hid hn
  have Hc := Lib.hid hc
  cases hp : parseL l with
  | ok N =>
    have hn1 := net_ok h c hc hn hp
    have HP := Lib.hid hp
    have hok : NetOk N.places.length N := by
      unfold parseL at hp
      cases hx : lexL 0 l with
      | error e => rw [hx] at hp; cases hp
      | ok T =>
        rw [hx] at hp
        have hL := lexL_all l.length l 0 T (Nat.le_refl _) (by omega) hx
        exact parse_netOk hL.good hL.all hp
    have Hok := Lib.hid hok
    clear h hp hR hok
    go_enter Try.func15, Try.ntmps15
    go_wp2_with fail
    refine hn1.mono ?_
    rintro e v1 ⟨a1, m1, c1, a2, m2, c2, rfl, hl1, hl2, hA, hb1⟩
    have bw1 : Below v1.heap.size v1 ((v1.alloc (.cells #[.slice a1 m1 c1, .slice a2 m2 c2] 30)).alloc (.cells #[.int .i64 0, .int .i64 0, .int .i64 0, .int .i64 0] 49)) := ((Below.refl _ v1).alloc (Nat.le_refl _) _).alloc (by simp) _
    have hR1 := Res.start v1 (.slice a1 m1 c1) (.slice a2 m2 c2)
    have HS1 := Lib.hid (hb1.trans (bw1.mono hb1.size))
    have HA1 := Lib.hid (hA.below bw1)
    have Hl1 := Lib.hid hl1
    have Hl2 := Lib.hid hl2
    have hrp := HR.out _ A n c l (H.out.below HS1.out) Hc.out Hn.out
    have HR1 := Lib.hid hR1
    clear hb1 hA hl1 hl2 bw1 hR1 hn1
    go_wp2_with fail
    refine hrp.mono ?_
    rintro e v2 ⟨v, rfl, hout, hb2⟩
    rcases hout with ⟨er, p, q1, _, _⟩ | ⟨N', vp, vt, q1, q2, rfl⟩
    · rw [HP.out] at q1; cases q1
    · rw [HP.out] at q1
      injection q1 with q1
      subst q1
      obtain ⟨g1, l', g2, g3⟩ := q2
      obtain ⟨x1, y1, e1⟩ := RowAt.len g1
      obtain ⟨x2, y2, e2⟩ := RowAt.len g3.1
      have hl' : l'.length = N.trans.length := by rw [← g2]; simp
      rw [hl'] at e2
      obtain ⟨p1, hp1⟩ : ∃ k, k = N.places.length := ⟨_, rfl⟩
      obtain ⟨p2, hp2⟩ : ∃ k, k = N.trans.length := ⟨_, rfl⟩
      rw [← hp1] at e1
      rw [← hp2] at e2
      subst e1 e2
      have Hp1 := Lib.hid hp1
      have Hp2 := Lib.hid hp2
      have bw2 : Below v2.heap.size v2 (v2.alloc (.cells #[.slice x1 p1 y1, .slice x2 p2 y2] 30)) := (Below.refl _ v2).alloc (Nat.le_refl _) _
      have hB2 : NetAt v2 (.slice x1 p1 y1) (.slice x2 p2 y2) N := ⟨g1, l', g2, g3⟩
      have HB2 := Lib.hid (hB2.below bw2)
      have hup := hb2.trans (bw2.mono hb2.size)
      have HA2 := Lib.hid (HA1.out.below hup)
      have HR2 := Lib.hid (HR1.out.up hup)
      have HS2 := Lib.hid (HS1.out.trans (hup.mono HS1.out.size))
      have wn0 : (v2.alloc (.cells #[.slice x1 p1 y1, .slice x2 p2 y2] 30)).cell? ⟨v2.heap.size, 0, none⟩ = some (.slice x1 p1 y1) := by go_simp
      have wn1 : (v2.alloc (.cells #[.slice x1 p1 y1, .slice x2 p2 y2] 30)).cell? ⟨v2.heap.size, 1, none⟩ = some (.slice x2 p2 y2) := by go_simp
      have wl : v2.heap.size < (v2.alloc (.cells #[.slice x1 p1 y1, .slice x2 p2 y2] 30)).heap.size := by simp
      clear hb2 g1 g2 g3 hl' hp1 hp2 bw2 hB2 hup hrp HA1 HR1
      go_upto_region 3 with (fail)
      revert HB2 HA2 HR2 HS2 wn0 wn1 wl
      generalize v2.alloc (.cells #[.slice x1 p1 y1, .slice x2 p2 y2] 30) = W
      intro HB2 HA2 HR2 HS2 wn0 wn1 wl
      obtain ⟨r0, r1, r2, r3, r4, r5, r6⟩ := HR2.out
      have r7 : v1.heap.size < W.heap.size := by omega
      have hsm := same_any Hl1.out Hl2.out Hp1.out Hp2.out HA2.out HB2.out
      rw [sameN_refl] at hsm
      go_wp2_with fail
      refine hsm.mono ?_
      rintro e w5 ⟨rfl, hb5⟩
      have HS5 := Lib.hid (HS2.out.trans (hb5.mono HS2.out.size))
      have hck := check_at Hl1.out Hl2.out (HA2.out.below hb5) (fun s hs => by have h1 := Hok.out.nm s hs; unfold nameB at h1; simp only [Bool.and_eq_true, decide_eq_true_eq] at h1; have h2 := h1.2; rw [Array.length_toList] at h2; show s.data.size ≤ 1000; omega) (checkN_ok Hok.out)
      obtain ⟨s0, s1, s2, s3, s4, s5, s6⟩ := HR2.out.up hb5
      have s7 : v1.heap.size < w5.heap.size := by omega
      clear hb5 hsm r0 r1 r2 r3 r4 r5 wn0 wn1
      go_wp2_with fail
      refine hck.mono ?_
      rintro e w6 ⟨rfl, hb6⟩
      have HS6 := Lib.hid (HS5.out.trans (hb6.mono HS5.out.size))
      clear hb6 hck
      go_wp2
      go_ret
      exact ⟨rfl, HS6.out⟩
  | error x =>
    obtain ⟨er, p⟩ := x
    have hn1 := net_bad h c hc hn hp
    have HP := Lib.hid hp
    obtain ⟨q, hq⟩ : ∃ q, q = placeL (l.take p) := ⟨_, rfl⟩
    rw [← hq] at hn1
    have Hq := Lib.hid hq
    obtain ⟨k1, k2⟩ := q
    unfold faultV at hn1
    simp only at hn1
    clear h hp hR hq
    go_enter Try.func15, Try.ntmps15
    go_wp2_with fail
    refine hn1.mono ?_
    rintro e v1 ⟨rfl, hpl, hb1⟩
    have bw1 : Below v1.heap.size v1 ((v1.alloc (.cells #[.slice none 0 0, .slice none 0 0] 30)).alloc (.cells #[.int .i64 er, .int .i64 (p : Int), .int .i64 (k1 : Int), .int .i64 (k2 : Int)] 49)) := ((Below.refl _ v1).alloc (Nat.le_refl _) _).alloc (by simp) _
    have HS1 := Lib.hid (hb1.trans (bw1.mono hb1.size))
    have hrp := HR.out _ A n c l (H.out.below HS1.out) Hc.out Hn.out
    have f0 : ((v1.alloc (.cells #[.slice none 0 0, .slice none 0 0] 30)).alloc (.cells #[.int .i64 er, .int .i64 (p : Int), .int .i64 (k1 : Int), .int .i64 (k2 : Int)] 49)).cell? ⟨v1.heap.size + 1, 0, none⟩ = some (.int .i64 er) := by go_simp
    have f1 : ((v1.alloc (.cells #[.slice none 0 0, .slice none 0 0] 30)).alloc (.cells #[.int .i64 er, .int .i64 (p : Int), .int .i64 (k1 : Int), .int .i64 (k2 : Int)] 49)).cell? ⟨v1.heap.size + 1, 1, none⟩ = some (.int .i64 (p : Int)) := by go_simp
    have f2 : ((v1.alloc (.cells #[.slice none 0 0, .slice none 0 0] 30)).alloc (.cells #[.int .i64 er, .int .i64 (p : Int), .int .i64 (k1 : Int), .int .i64 (k2 : Int)] 49)).cell? ⟨v1.heap.size + 1, 2, none⟩ = some (.int .i64 (k1 : Int)) := by go_simp
    have f3 : ((v1.alloc (.cells #[.slice none 0 0, .slice none 0 0] 30)).alloc (.cells #[.int .i64 er, .int .i64 (p : Int), .int .i64 (k1 : Int), .int .i64 (k2 : Int)] 49)).cell? ⟨v1.heap.size + 1, 3, none⟩ = some (.int .i64 (k2 : Int)) := by go_simp
    have n0 : ((v1.alloc (.cells #[.slice none 0 0, .slice none 0 0] 30)).alloc (.cells #[.int .i64 er, .int .i64 (p : Int), .int .i64 (k1 : Int), .int .i64 (k2 : Int)] 49)).cell? ⟨v1.heap.size, 0, none⟩ = some (.slice none 0 0) := by go_simp
    have n1 : ((v1.alloc (.cells #[.slice none 0 0, .slice none 0 0] 30)).alloc (.cells #[.int .i64 er, .int .i64 (p : Int), .int .i64 (k1 : Int), .int .i64 (k2 : Int)] 49)).cell? ⟨v1.heap.size, 1, none⟩ = some (.slice none 0 0) := by go_simp
    have hsz : v1.heap.size + 1 < ((v1.alloc (.cells #[.slice none 0 0, .slice none 0 0] 30)).alloc (.cells #[.int .i64 er, .int .i64 (p : Int), .int .i64 (k1 : Int), .int .i64 (k2 : Int)] 49)).heap.size := by simp
    have Hpl := Lib.hid hpl
    clear hb1 bw1 hn1 hpl
    go_wp2_with fail
    refine hrp.mono ?_
    rintro e v2 ⟨v, rfl, hout, hb2⟩
    rcases hout with ⟨er', p', q1, hne, rfl⟩ | ⟨N', vp, vt, q1, q2, rfl⟩
    · rw [HP.out] at q1
      injection q1 with q1
      injection q1 with q1 q2
      subst q1 q2
      have bw2 : Below v2.heap.size v2 (v2.alloc (.cells #[.slice none 0 0, .slice none 0 0] 30)) := (Below.refl _ v2).alloc (Nat.le_refl _) _
      have hup := hb2.trans (bw2.mono hb2.size)
      have HS2 := Lib.hid (HS1.out.trans (hup.mono HS1.out.size))
      have g0 := (below_cells hup _ _ hsz).trans f0
      have g1 := (below_cells hup _ _ hsz).trans f1
      have g2 := (below_cells hup _ _ hsz).trans f2
      have g3 := (below_cells hup _ _ hsz).trans f3
      have h0 := (below_cells hup _ _ (Nat.lt_of_succ_lt hsz)).trans n0
      have h1 := (below_cells hup _ _ (Nat.lt_of_succ_lt hsz)).trans n1
      have hz2 : v1.heap.size + 1 < (v2.alloc (.cells #[.slice none 0 0, .slice none 0 0] 30)).heap.size := Nat.lt_of_lt_of_le hsz hup.size
      have herb : (er == 0) = false := by simpa using hne
      have hrpl := rplace_any (H.out.below HS2.out) c p (by rw [← hll]; exact Hpl.out) (by have := Hn.out; omega)
      rw [← Hq.out] at hrpl
      simp only at hrpl
      clear hb2 bw2 hup hrp f0 f1 f2 f3 n0 n1 hsz hne
      go_upto_region 3 with (fail)
      revert HS2 g0 g1 g2 g3 h0 h1 hz2 hrpl
      generalize v2.alloc (.cells #[.slice none 0 0, .slice none 0 0] 30) = W
      intro HS2 g0 g1 g2 g3 h0 h1 hz2 hrpl
      have hz3 : v1.heap.size < W.heap.size := by omega
      go_wp2_with fail
      refine hrpl.mono ?_
      rintro e w5 ⟨rfl, rfl⟩
      clear hrpl
      go_wp2
      go_ret
      exact ⟨rfl, HS2.out⟩
    · rw [HP.out] at q1; cases q1
end
end Go.Proofs.Ytfiielibnnodkaa
