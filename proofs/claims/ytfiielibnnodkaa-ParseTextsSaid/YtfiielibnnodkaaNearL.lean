/-
  A net of the call's own of which one thing is stored anew: a place's, a transition's, an arc's cell; a list.
  Conditions: none beyond each theorem's own.
-/
import Derived.Test.YtfiielibnnodkaaMakeB
namespace Go.Proofs.Ytfiielibnnodkaa
open Go.RowKit
set_option linter.unusedVariables false

theorem flat_set {α : Type} {f : α → List Value} {k : Nat} (hf : ∀ a, (f a).length = k) (l : List α) : ∀ (i j : Nat) (a a' : α) (y : Value), l[i]? = some a → j < k → f a' = (f a).set j y → (l.flatMap f).set (i * k + j) y = (l.set i a').flatMap f := by
  induction l with
  | nil => intro i j a a' y h; simp at h
  | cons p l ih =>
    intro i j a a' y hi hj h
    rw [List.flatMap_cons]
    cases i with
    | zero =>
      simp at hi
      subst hi
      rw [Nat.zero_mul, Nat.zero_add, List.set_append_left _ _ (by rw [hf]; exact hj), List.set_cons_zero, List.flatMap_cons, h]
    | succ i =>
      have e : (i + 1) * k + j - k = i * k + j := by rw [Nat.succ_mul]; omega
      have e2 : k ≤ (i + 1) * k + j := by rw [Nat.succ_mul]; omega
      rw [List.set_append_right _ _ (by rw [hf]; exact e2), hf, e, List.set_cons_succ, List.flatMap_cons]
      rw [ih i j a a' y (by simpa using hi) hj h]

theorem set_split {α : Type} {l : List α} {i : Nat} {a : α} (h : l[i]? = some a) (a' : α) : l = l.take i ++ a :: l.drop (i + 1) ∧ l.set i a' = l.take i ++ a' :: l.drop (i + 1) := by
  have hi := lt_at h
  constructor
  · rw [← drop_at h, List.take_append_drop]
  · rw [List.set_eq_take_append_cons_drop, if_pos hi]

section
variable {B : Nat} {w : World} {vp vt : Value} {ps : List Pl} {l : List (Tr × Value × Value × Value)} {X : Row}

/-- a cell of a row stored -/
theorem AllOwn.storeAt {pre post : List Row} {r : Row} {b c : Nat} (h : AllOwn B w (pre ++ r :: post)) (hv : r.v = .slice (some ⟨b, 0, none⟩) r.n c) (j : Nat) (y : Value) {r' : Row} (h1 : r'.e = r.e) (h2 : r'.size = r.size) (h3 : r'.v = r.v) (h4 : r'.n = r.n) (h5 : r'.xs = r.xs.set j y) :
    AllOwn B (w.setCell ⟨b, j, none⟩ y) (pre ++ r' :: post) ∧ Kept (fun k => k = b) w (w.setCell ⟨b, j, none⟩ y) := by
  have ho := h.own r (by simp)
  have ho' : w.ownsRow B r.e r.size (.slice (some ⟨b, 0, none⟩) r.n c) r.n r.xs := by rw [← hv]; exact ho
  obtain ⟨g1, hg⟩ := World.ownsRow.stored ho' j y
  have hk : Kept (fun k => r.v.ownBlock = some k) w (w.setCell ⟨b, j, none⟩ y) := (Kept.refl _ w).grown hg (fun k e => by rw [hv, ← e]; rfl)
  refine ⟨h.swap hk (r' := r') ?_ (.inl (by rw [h3])), hk.mono (fun k _ e => by rw [hv] at e; injection e with e; exact e.symm)⟩
  show World.ownsRow _ B r'.e r'.size r'.v r'.n r'.xs
  rw [h1, h2, h3, h4, h5, hv]
  exact g1

theorem AllOwn.storePl {b c : Nat} (h : AllOwn B w (X :: netRows vp vt ps l)) (hv : vp = .slice (some ⟨b, 0, none⟩) ps.length c) {i j : Nat} {p p' : Pl} {y : Value} (hi : ps[i]? = some p) (hj : j < 2) (hp : plL p' = (plL p).set j y) :
    AllOwn B (w.setCell ⟨b, i * 2 + j, none⟩ y) (X :: netRows vp vt (ps.set i p') l) ∧ Kept (fun k => k = b) w (w.setCell ⟨b, i * 2 + j, none⟩ y) :=
  AllOwn.storeAt (pre := [X]) (r := plRow vp ps) (post := trRow vt l :: l.flatMap arcRows) (r' := plRow vp (ps.set i p')) h hv (i * 2 + j) y rfl rfl rfl (by simp [plRow]) (flat_set plL_len ps i j p p' y hi hj hp).symm

theorem arcRows_set {i : Nat} {x x' : Tr × Value × Value × Value} (hi : l[i]? = some x) (hx : arcRows x' = arcRows x) : (l.set i x').flatMap arcRows = l.flatMap arcRows := by
  obtain ⟨e1, e2⟩ := set_split hi x'
  rw [e2]
  conv => rhs; rw [e1]
  rw [List.flatMap_append, List.flatMap_append, List.flatMap_cons, List.flatMap_cons, hx]

theorem AllOwn.storeTr {b c : Nat} (h : AllOwn B w (X :: netRows vp vt ps l)) (hv : vt = .slice (some ⟨b, 0, none⟩) l.length c) {i j : Nat} {x x' : Tr × Value × Value × Value} {y : Value} (hi : l[i]? = some x) (hj : j < 6) (hp : trL x' = (trL x).set j y) (hx : arcRows x' = arcRows x) :
    AllOwn B (w.setCell ⟨b, i * 6 + j, none⟩ y) (X :: netRows vp vt ps (l.set i x')) ∧ Kept (fun k => k = b) w (w.setCell ⟨b, i * 6 + j, none⟩ y) := by
  have := AllOwn.storeAt (pre := [X, plRow vp ps]) (r := trRow vt l) (post := l.flatMap arcRows) (r' := trRow vt (l.set i x')) h hv (i * 6 + j) y rfl rfl rfl (by simp [trRow]) (flat_set trL_len l i j x x' y hi hj hp).symm
  rw [← arcRows_set hi hx] at this
  exact this

/-- the rows, around those of one transition -/
theorem netRows_at {i : Nat} {x x' : Tr × Value × Value × Value} (hi : l[i]? = some x) (ht : trL x' = trL x) :
    X :: netRows vp vt ps l = (X :: plRow vp ps :: trRow vt l :: (l.take i).flatMap arcRows) ++ (arcRows x ++ (l.drop (i + 1)).flatMap arcRows) ∧
    X :: netRows vp vt ps (l.set i x') = (X :: plRow vp ps :: trRow vt l :: (l.take i).flatMap arcRows) ++ (arcRows x' ++ (l.drop (i + 1)).flatMap arcRows) := by
  obtain ⟨e1, e2⟩ := set_split hi x'
  have f1 : l.flatMap arcRows = (l.take i).flatMap arcRows ++ (arcRows x ++ (l.drop (i + 1)).flatMap arcRows) := by
    conv => lhs; rw [e1]
    rw [List.flatMap_append, List.flatMap_cons]
  have f2 : (l.set i x').flatMap arcRows = (l.take i).flatMap arcRows ++ (arcRows x' ++ (l.drop (i + 1)).flatMap arcRows) := by
    rw [e2, List.flatMap_append, List.flatMap_cons]
  have f3 : trRow vt (l.set i x') = trRow vt l := by
    unfold trRow
    have g : (l.set i x').flatMap trL = l.flatMap trL := by
      rw [e2]
      conv => rhs; rw [e1]
      rw [List.flatMap_append, List.flatMap_append, List.flatMap_cons, List.flatMap_cons, ht]
    rw [g, List.length_set]
  unfold netRows
  rw [f1, f2, f3]
  exact ⟨by simp, by simp⟩

/-- a cell of an arc of the first list -/
theorem AllOwn.storeIn {b c : Nat} {t t' : Tr} {v1 v2 v3 : Value} (h : AllOwn B w (X :: netRows vp vt ps l)) {i q j : Nat} {a a' : Int × Int} {y : Value} (hi : l[i]? = some (t, v1, v2, v3)) (hv : v1 = .slice (some ⟨b, 0, none⟩) t.inn.length c) (hq : t.inn[q]? = some a) (hj : j < 2) (ha : arcL a' = (arcL a).set j y)
    (ht : t' = ⟨t.name, t.delay, t.prio, t.inn.set q a', t.nt, t.out⟩) :
    AllOwn B (w.setCell ⟨b, q * 2 + j, none⟩ y) (X :: netRows vp vt ps (l.set i (t', v1, v2, v3))) ∧ Kept (fun k => k = b) w (w.setCell ⟨b, q * 2 + j, none⟩ y) := by
  obtain ⟨e1, e2⟩ := netRows_at (X := X) (vp := vp) (vt := vt) (ps := ps) (x' := (t', v1, v2, v3)) hi (by subst ht; rfl)
  rw [e1] at h
  rw [e2]
  have hh : (arcRows (t, v1, v2, v3) ++ (l.drop (i + 1)).flatMap arcRows) = arcRow v1 t.inn :: (arcRow v2 t.nt :: arcRow v3 t.out :: (l.drop (i + 1)).flatMap arcRows) := rfl
  have hh' : (arcRows (t', v1, v2, v3) ++ (l.drop (i + 1)).flatMap arcRows) = arcRow v1 (t.inn.set q a') :: (arcRow v2 t.nt :: arcRow v3 t.out :: (l.drop (i + 1)).flatMap arcRows) := by subst ht; rfl
  rw [hh] at h
  rw [hh']
  exact AllOwn.storeAt (r' := arcRow v1 (t.inn.set q a')) h hv (q * 2 + j) y rfl rfl rfl (by simp [arcRow]) (flat_set arcL_len t.inn q j a a' y hq hj ha).symm
end
end Go.Proofs.Ytfiielibnnodkaa
