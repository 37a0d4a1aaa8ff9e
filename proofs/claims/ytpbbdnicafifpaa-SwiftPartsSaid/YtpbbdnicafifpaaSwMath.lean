/-
  Plain facts for the engine that asks only what has changed: what comes in whatever order is the same; which transitions are queued; the first one that may fire is the best one.
  Conditions: none beyond each theorem's own.
-/
import Derived.Test.YtpbbdnicafifpaaRunMath
import Derived.Test.YtpbbdnicafifpaaHeapMath
namespace Go.Proofs.Ytpbbdnicafifpaa
open Go.RowKit
set_option linter.unusedVariables false

def evK (e : Ev) : Key4 := (e.time, 0, e.place, e.n)
theorem evK_inj {a b : Ev} (h : evK a = evK b) : a = b := by
  unfold evK at h
  injection h with h1 h
  injection h with _ h
  injection h with h2 h3
  cases a; cases b
  simp at h1 h2 h3
  subst h1 h2 h3
  rfl

theorem addE_at (m : List Int) (e : Ev) (k : Nat) : (addE m e)[k]? = if e.place.toNat = k then m[k]?.map (· + e.n) else m[k]? := by
  unfold addE getI
  rw [List.getElem?_set]
  split
  · rename_i h
    subst h
    split
    · rename_i h2; simp [List.getD, h2]
    · rename_i h2; simp [List.getElem?_eq_none (Nat.not_lt.1 h2)]
  · rfl
theorem addE_comm (m : List Int) (a b : Ev) : addE (addE m a) b = addE (addE m b) a := by
  apply List.ext_getElem?
  intro k
  simp only [addE_at]
  by_cases h1 : a.place.toNat = k
  · by_cases h2 : b.place.toNat = k
    · simp only [h1, h2, if_true, Option.map_map]
      congr 1
      funext z
      simp only [Function.comp]
      omega
    · simp only [h1, h2, if_true, if_false]
  · simp only [h1, if_false]
theorem foldE_perm {q r : List Ev} (h : q.Perm r) (m : List Int) : q.foldl addE m = r.foldl addE m :=
  h.foldl_eq' (fun x _ y _ z => addE_comm z x y) m
theorem wayL_perm (P : Nat) {q r : List Ev} (h : q.Perm r) : wayL P q = wayL P r := foldE_perm h _
theorem wayL_snoc (P : Nat) (q : List Ev) (e : Ev) : wayL P (q ++ [e]) = addE (wayL P q) e := by unfold wayL; rw [List.foldl_append]; rfl
theorem wayL_size (P : Nat) (q : List Ev) : (wayL P q).length = P := by unfold wayL; rw [foldE_len]; simp
/-- one that was under way has come -/
theorem wayL_take_off {P p : Nat} {q r : List Ev} {e : Ev} (h : q.Perm (e :: r)) (hp : e.place = (p : Int)) (hP : p < P) {z : Int} (hz : (wayL P q)[p]? = some z) : (wayL P q).set p (z - e.n) = wayL P r := by
  have h1 : q.Perm (r ++ [e]) := h.trans (List.perm_append_singleton e r).symm
  have e1 : wayL P q = addE (wayL P r) e := by rw [wayL_perm P h1, wayL_snoc]
  rw [e1] at hz ⊢
  have hpn : e.place.toNat = p := by omega
  apply List.ext_getElem?
  intro k
  rw [List.getElem?_set]
  have hl : p < (addE (wayL P r) e).length := by rw [addE_len, wayL_size]; exact hP
  rw [addE_at, if_pos hpn] at hz
  split
  · rename_i hk
    subst hk
    cases hw : (wayL P r)[p]? with
    | none => rw [hw] at hz; cases hz
    | some y =>
      rw [hw] at hz
      simp at hz
      congr 1
      omega
  · rename_i hk
    rw [addE_at, if_neg (by omega)]

/-! which are queued -/
def keyOf (ts : List Tr) (i : Nat) : Key4 := (0, (ts.getD i Tr.none).prio, (i : Int), 0)
def qB (qd : List Bool) (i : Nat) : Bool := qd.getD i false
def keysQ (ts : List Tr) (qd : List Bool) : List Key4 := ((List.range ts.length).filter (qB qd)).map (keyOf ts)

theorem filter_on {p p' : Nat → Bool} {i : Nat} (h1 : p i = false) (h2 : p' i = true) (h3 : ∀ j, j ≠ i → p' j = p j) : ∀ l : List Nat, l.Nodup → i ∈ l → (i :: l.filter p).Perm (l.filter p')
  | [], _, h => by cases h
  | a :: l, hn, hm => by
    rw [List.nodup_cons] at hn
    by_cases ha : a = i
    · subst ha
      have e : l.filter p' = l.filter p := List.filter_congr (fun x hx => h3 x (fun e => hn.1 (e ▸ hx)))
      rw [List.filter_cons_of_neg (by rw [h1]; simp), List.filter_cons_of_pos h2, e]
    · have hm2 : i ∈ l := by
        rcases List.mem_cons.1 hm with e | h
        · exact absurd e.symm ha
        · exact h
      have ih := filter_on h1 h2 h3 l hn.2 hm2
      cases hp : p a with
      | true =>
        rw [List.filter_cons_of_pos hp, List.filter_cons_of_pos (by rw [h3 a ha]; exact hp)]
        exact (List.Perm.swap a i _).trans (List.Perm.cons a ih)
      | false =>
        rw [List.filter_cons_of_neg (by rw [hp]; simp), List.filter_cons_of_neg (by rw [h3 a ha, hp]; simp)]
        exact ih
theorem qB_set {qd : List Bool} {i : Nat} (hi : i < qd.length) (x : Bool) (j : Nat) : qB (qd.set i x) j = if j = i then x else qB qd j := by
  unfold qB
  rw [List.getD_eq_getElem?_getD, List.getD_eq_getElem?_getD, List.getElem?_set]
  by_cases h : i = j
  · subst h; simp [hi]
  · rw [if_neg h, if_neg (fun e => h e.symm)]
theorem keysQ_on {ts : List Tr} {qd : List Bool} {i : Nat} (hi : i < ts.length) (hl : qd.length = ts.length) (h : qB qd i = false) : (keyOf ts i :: keysQ ts qd).Perm (keysQ ts (qd.set i true)) := by
  have := filter_on (p := qB qd) (p' := qB (qd.set i true)) h (by rw [qB_set (by omega), if_pos rfl]) (fun j hj => by rw [qB_set (by omega), if_neg hj]) (List.range ts.length) List.nodup_range (by simp [hi])
  exact this.map (keyOf ts)
theorem keysQ_off {ts : List Tr} {qd : List Bool} {i : Nat} (hi : i < ts.length) (hl : qd.length = ts.length) (h : qB qd i = true) : (keyOf ts i :: keysQ ts (qd.set i false)).Perm (keysQ ts qd) := by
  have := filter_on (p := qB (qd.set i false)) (p' := qB qd) (by rw [qB_set (by omega), if_pos rfl]) h (fun j hj => by rw [qB_set (by omega), if_neg hj]) (List.range ts.length) List.nodup_range (by simp [hi])
  exact this.map (keyOf ts)

/-- the queue of those that may have to be asked -/
structure RQ (ts : List Tr) (R : List Key4) (qd : List Bool) : Prop where
  heap : IsHeap R
  len : qd.length = ts.length
  perm : R.Perm (keysQ ts qd)

theorem RQ.size {ts : List Tr} {R : List Key4} {qd : List Bool} (h : RQ ts R qd) : R.length ≤ ts.length := by
  rw [h.perm.length_eq, keysQ, List.length_map]
  have := List.length_filter_le (qB qd) (List.range ts.length)
  simpa using this
theorem at4_mem {ks : List Key4} (h : 0 < ks.length) : at4 ks 0 ∈ ks := by
  cases ks with
  | nil => simp at h
  | cons a l => simp [at4]
theorem RQ.top {ts : List Tr} {R : List Key4} {qd : List Bool} (h : RQ ts R qd) (hp : 0 < R.length) : ∃ i, i < ts.length ∧ qB qd i = true ∧ at4 R 0 = keyOf ts i ∧ ∀ j, j < ts.length → qB qd j = true → klt (keyOf ts j) (keyOf ts i) = false := by
  have hm := h.perm.subset (at4_mem hp)
  unfold keysQ at hm
  rw [List.mem_map] at hm
  obtain ⟨i, hi, he⟩ := hm
  rw [List.mem_filter, List.mem_range] at hi
  refine ⟨i, hi.1, hi.2, he.symm, fun j hj hq => ?_⟩
  have hjm : keyOf ts j ∈ R := h.perm.symm.subset (by unfold keysQ; rw [List.mem_map]; exact ⟨j, by rw [List.mem_filter, List.mem_range]; exact ⟨hj, hq⟩, rfl⟩)
  obtain ⟨k, hk, hke⟩ := List.mem_iff_getElem.1 hjm
  have := h.heap.first k hk
  rw [← he] at this
  have e : at4 R k = keyOf ts j := by simp [at4, List.getD, hk, hke]
  rwa [e] at this
theorem RQ.none {ts : List Tr} {R : List Key4} {qd : List Bool} (h : RQ ts R qd) (hp : R.length = 0) : ∀ j, j < ts.length → qB qd j = false := by
  intro j hj
  cases hq : qB qd j with
  | false => rfl
  | true =>
    have hjm : keyOf ts j ∈ R := h.perm.symm.subset (by unfold keysQ; rw [List.mem_map]; exact ⟨j, by rw [List.mem_filter, List.mem_range]; exact ⟨hj, hq⟩, rfl⟩)
    rw [List.eq_nil_of_length_eq_zero hp] at hjm
    cases hjm
theorem RQ.on {ts : List Tr} {R R' : List Key4} {qd : List Bool} {i : Nat} (h : RQ ts R qd) (hi : i < ts.length) (hq : qB qd i = false) (hp : R'.Perm (keyOf ts i :: R)) (hh : IsHeap R') : RQ ts R' (qd.set i true) :=
  ⟨hh, by rw [List.length_set]; exact h.len, hp.trans ((List.Perm.cons _ h.perm).trans (keysQ_on hi h.len hq))⟩
theorem RQ.off {ts : List Tr} {R R' : List Key4} {qd : List Bool} {i : Nat} (h : RQ ts R qd) (hi : i < ts.length) (hq : qB qd i = true) (hp : (keyOf ts i :: R').Perm R) (hh : IsHeap R') : RQ ts R' (qd.set i false) :=
  ⟨hh, by rw [List.length_set]; exact h.len, ((hp.trans h.perm).trans (keysQ_off hi h.len hq).symm).cons_inv⟩

/-! the best one -/
/-- which of two stands first -/
def firstT (ts : List Tr) (j i : Nat) : Prop := klt (keyOf ts j) (keyOf ts i) = true
def mayT (m : List Int) (ts : List Tr) (i : Nat) : Bool := match ts[i]? with | none => false | some t => mayB m t.inn t.nt
theorem klt_key (ts : List Tr) (j i : Nat) : klt (keyOf ts j) (keyOf ts i) = true ↔ (ts.getD j Tr.none).prio < (ts.getD i Tr.none).prio ∨ ((ts.getD j Tr.none).prio = (ts.getD i Tr.none).prio ∧ j < i) := by
  unfold keyOf
  generalize (ts.getD j Tr.none).prio = a
  generalize (ts.getD i Tr.none).prio = b
  rw [klt_iff]
  simp
theorem bestTo_char (m : List Int) (ts : List Tr) : ∀ k, k ≤ ts.length → (bestTo m ts k = -1 ∧ ∀ j, j < k → mayT m ts j = false) ∨ (∃ i, i < k ∧ bestTo m ts k = (i : Int) ∧ mayT m ts i = true ∧ ∀ j, j < k → mayT m ts j = true → klt (keyOf ts j) (keyOf ts i) = false)
  | 0, _ => .inl ⟨rfl, fun j hj => by omega⟩
  | k + 1, hk => by
    have ih := bestTo_char m ts k (by omega)
    obtain ⟨t, ht⟩ := at_lt (l := ts) (k := k) (by omega)
    have hmt : mayT m ts k = mayB m t.inn t.nt := by unfold mayT; rw [ht]
    have hpk : ts.getD k Tr.none = t := by simp [List.getD, ht]
    rw [bestTo]
    cases hm : mayB m t.inn t.nt with
    | false =>
      rw [stepB_no ht hm]
      rcases ih with ⟨h1, h2⟩ | ⟨i, h1, h2, h3, h4⟩
      · refine .inl ⟨h1, fun j hj => ?_⟩
        by_cases e : j = k
        · subst e; rw [hmt]; exact hm
        · exact h2 j (by omega)
      · refine .inr ⟨i, by omega, h2, h3, fun j hj hj2 => ?_⟩
        by_cases e : j = k
        · subst e; rw [hmt, hm] at hj2; cases hj2
        · exact h4 j (by omega) hj2
    | true =>
      rcases ih with ⟨h1, h2⟩ | ⟨i, h1, h2, h3, h4⟩
      · rw [stepB_first ht hm (by omega)]
        refine .inr ⟨k, by omega, rfl, by rw [hmt]; exact hm, fun j hj hj2 => ?_⟩
        by_cases e : j = k
        · subst e; exact klt_irrefl _
        · rw [h2 j (by omega)] at hj2; cases hj2
      · obtain ⟨u, hu⟩ := at_lt (l := ts) (k := i) (by omega)
        have hpi : ts.getD i Tr.none = u := by simp [List.getD, hu]
        rw [h2, stepB_more ht hm hu]
        by_cases hlt : t.prio < u.prio
        · rw [if_pos hlt]
          have hki : klt (keyOf ts k) (keyOf ts i) = true := (klt_key ts k i).2 (.inl (by rw [hpk, hpi]; exact hlt))
          refine .inr ⟨k, by omega, rfl, by rw [hmt]; exact hm, fun j hj hj2 => ?_⟩
          by_cases e : j = k
          · subst e; exact klt_irrefl _
          · exact kle_trans (klt_asymm hki) (h4 j (by omega) hj2)
        · rw [if_neg hlt]
          refine .inr ⟨i, by omega, rfl, h3, fun j hj hj2 => ?_⟩
          by_cases e : j = k
          · subst e
            cases hc : klt (keyOf ts j) (keyOf ts i) with
            | false => rfl
            | true =>
              rw [klt_key, hpk, hpi] at hc
              omega
          · exact h4 j (by omega) hj2
theorem bestTo_is {m : List Int} {ts : List Tr} {i : Nat} (hi : i < ts.length) (hm : mayT m ts i = true) (h : ∀ j, j < ts.length → mayT m ts j = true → klt (keyOf ts j) (keyOf ts i) = false) : bestTo m ts ts.length = (i : Int) := by
  rcases bestTo_char m ts ts.length (Nat.le_refl _) with ⟨_, h2⟩ | ⟨k, h1, h2, h3, h4⟩
  · rw [h2 i hi] at hm; cases hm
  · have e := klt_total (h4 i hi hm) (h k h1 h3)
    have : (i : Int) = (k : Int) := by
      unfold keyOf at e
      injection e with _ e
      injection e with _ e
      injection e with e _
    rw [h2, this]
theorem bestTo_none {m : List Int} {ts : List Tr} (h : ∀ j, j < ts.length → mayT m ts j = false) : bestTo m ts ts.length = -1 := by
  rcases bestTo_char m ts ts.length (Nat.le_refl _) with ⟨h1, _⟩ | ⟨k, h1, h2, h3, h4⟩
  · exact h1
  · rw [h k h1] at h3; cases h3

/-- the transitions as the engine sees them: those of its own, whose tokens for other places are told; the others never may -/
structure Masked (ts ts' : List Tr) (mine : Nat → Bool) (away : Int → Bool) : Prop where
  len : ts'.length = ts.length
  own : ∀ i x, mine i = true → ts[i]? = some x → ∃ x', ts'[i]? = some x' ∧ x'.inn = x.inn ∧ x'.nt = x.nt ∧ x'.prio = x.prio ∧ x'.delay = x.delay ∧ x'.out = x.out.filter (fun a => !away a.1)
  dead : ∀ i, i < ts.length → mine i = false → ∀ m, mayT m ts' i = false
theorem Masked.all (ts : List Tr) (mine : Nat → Bool) (h : ∀ i, i < ts.length → mine i = true) : Masked ts ts mine (fun _ => false) :=
  ⟨rfl, fun i x _ hx => ⟨x, hx, rfl, rfl, rfl, rfl, (List.filter_eq_self.2 (fun a _ => rfl)).symm⟩, fun i hi hm => by rw [h i hi] at hm; cases hm⟩
theorem Masked.may {ts ts' : List Tr} {mine : Nat → Bool} {away : Int → Bool} (h : Masked ts ts' mine away) {m : List Int} {i : Nat} (hi : i < ts.length) (hm : mine i = true) : mayT m ts' i = mayT m ts i := by
  obtain ⟨x, hx⟩ := at_lt (l := ts) (k := i) hi
  obtain ⟨x', hx', e1, e2, _⟩ := h.own i x hm hx
  unfold mayT
  rw [hx, hx']
  simp only
  rw [e1, e2]
theorem Masked.key {ts ts' : List Tr} {mine : Nat → Bool} {away : Int → Bool} (h : Masked ts ts' mine away) {i : Nat} (hi : i < ts.length) (hm : mine i = true) : keyOf ts' i = keyOf ts i := by
  obtain ⟨x, hx⟩ := at_lt (l := ts) (k := i) hi
  obtain ⟨x', hx', _, _, e3, _⟩ := h.own i x hm hx
  unfold keyOf
  simp [List.getD, hx, hx', e3]

/-- all that may fire are queued, and none but the engine's own -/
structure Cov (ts : List Tr) (mine : Nat → Bool) (m : List Int) (qd : List Bool) : Prop where
  may : ∀ i, i < ts.length → mine i = true → mayT m ts i = true → qB qd i = true
  own : ∀ i, qB qd i = true → mine i = true

theorem best_top {ts ts' : List Tr} {mine : Nat → Bool} {away : Int → Bool} (hM : Masked ts ts' mine away) {m : List Int} {R : List Key4} {qd : List Bool} (hR : RQ ts R qd) (hC : Cov ts mine m qd) {i : Nat} (hi : i < ts.length) (hq : qB qd i = true)
    (hf : ∀ j, j < ts.length → qB qd j = true → klt (keyOf ts j) (keyOf ts i) = false) (hm : mayT m ts i = true) : bestTo m ts' ts'.length = (i : Int) := by
  have ho := hC.own i hq
  refine bestTo_is (by rw [hM.len]; exact hi) (by rw [hM.may hi ho]; exact hm) (fun j hj hj2 => ?_)
  rw [hM.len] at hj
  cases hmj : mine j with
  | false => rw [hM.dead j hj hmj] at hj2; cases hj2
  | true =>
    rw [hM.may hj hmj] at hj2
    rw [hM.key hj hmj, hM.key hi ho]
    exact hf j hj (hC.may j hj hmj hj2)
theorem best_empty {ts ts' : List Tr} {mine : Nat → Bool} {away : Int → Bool} (hM : Masked ts ts' mine away) {m : List Int} {qd : List Bool} (hC : Cov ts mine m qd) (hn : ∀ j, j < ts.length → qB qd j = false) : bestTo m ts' ts'.length = -1 := by
  refine bestTo_none (fun j hj => ?_)
  rw [hM.len] at hj
  cases hmj : mine j with
  | false => exact hM.dead j hj hmj m
  | true =>
    rw [hM.may hj hmj]
    cases h : mayT m ts j with
    | false => rfl
    | true => have := hC.may j hj hmj h; rw [hn j hj] at this; cases this
theorem Cov.off {ts : List Tr} {mine : Nat → Bool} {m : List Int} {qd : List Bool} {i : Nat} (hC : Cov ts mine m qd) (hi : i < qd.length) (hm : mayT m ts i = false) : Cov ts mine m (qd.set i false) := by
  refine ⟨fun j hj hmj h => ?_, fun j hj => ?_⟩
  · rw [qB_set hi]
    by_cases e : j = i
    · subst e; rw [hm] at h; cases h
    · rw [if_neg e]; exact hC.may j hj hmj h
  · rw [qB_set hi] at hj
    by_cases e : j = i
    · rw [if_pos e] at hj; cases hj
    · rw [if_neg e] at hj; exact hC.own j hj

/-- does a transition look at a place? -/
def looks (x : Tr) (p : Int) : Prop := (∃ a ∈ x.inn, a.1 = p) ∨ (∃ a ∈ x.nt, a.1 = p)
theorem may_same {m m' : List Int} {li ln : List (Int × Int)} (h1 : ∀ a ∈ li, getI m' a.1 = getI m a.1) (h2 : ∀ a ∈ ln, getI m' a.1 = getI m a.1) : mayB m' li ln = mayB m li ln := by
  have e1 : li.any (shortA m') = li.any (shortA m) := by
    induction li with
    | nil => rfl
    | cons a l ih => rw [List.any_cons, List.any_cons, ih (fun b hb => h1 b (by simp [hb]))]; unfold shortA; rw [h1 a (by simp)]
  have e2 : ln.any (fullA m') = ln.any (fullA m) := by
    induction ln with
    | nil => rfl
    | cons a l ih => rw [List.any_cons, List.any_cons, ih (fun b hb => h2 b (by simp [hb]))]; unfold fullA; rw [h2 a (by simp)]
  unfold mayB
  rw [e1, e2]
/-- the tokens of some places have changed, and all that look at them are queued -/
theorem Cov.turn {ts : List Tr} {mine : Nat → Bool} {m m' : List Int} {qd qd' : List Bool} (hC : Cov ts mine m qd) (ps : Int → Prop) (hm : ∀ p, ¬ ps p → getI m' p = getI m p)
    (h1 : ∀ i, qB qd i = true → qB qd' i = true) (h2 : ∀ i x p, ts[i]? = some x → mine i = true → ps p → looks x p → qB qd' i = true) (h3 : ∀ i, qB qd' i = true → mine i = true) : Cov ts mine m' qd' := by
  refine ⟨fun i hi hmi h => ?_, h3⟩
  obtain ⟨x, hx⟩ := at_lt (l := ts) (k := i) hi
  by_cases hl : ∃ p, ps p ∧ looks x p
  · obtain ⟨p, hp, hp2⟩ := hl
    exact h2 i x p hx hmi hp hp2
  · refine h1 i (hC.may i hi hmi ?_)
    unfold mayT at h ⊢
    rw [hx] at h ⊢
    simp only at h ⊢
    rw [← h]
    exact (may_same (fun a ha => hm _ (fun hp => hl ⟨a.1, hp, .inl ⟨a, ha, rfl⟩⟩)) (fun a ha => hm _ (fun hp => hl ⟨a.1, hp, .inr ⟨a, ha, rfl⟩⟩))).symm
end Go.Proofs.Ytpbbdnicafifpaa
