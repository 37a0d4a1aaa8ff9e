/-
  What arrive comes to: all tokens that are due are put where they go, the others stay under way.
  Conditions: none beyond each theorem's own.
-/
import Derived.Test.YtpfdmmidomofdaaRunA
import Derived.Deep.RegionLaw
import Derived.BigRegion
namespace Go.Proofs.Ytpfdmmidomofdaa
open Go.RowKit
set_option linter.unusedVariables false

/-- what is not read yet of a row of events that is written from its head on -/
def Rest (wr : World) (aq : Option Addr) (nq cq k : Nat) (q : List Ev) : Prop :=
  ∀ g, aq = some ⟨g, 0, none⟩ → ∃ cur : Array Value, wr.heap[g]? = some (.cells cur 65 (0, 0)) ∧ cur.size = cq * 3 ∧ nq ≤ cq ∧ cq ≤ maxLen ∧ (cur.toList.take (nq * 3)).drop (k * 3) = (q.drop k).flatMap evL

theorem Rest.kept {S : Nat → Prop} {w w' : World} {aq : Option Addr} {nq cq k : Nat} {q : List Ev} (h : Rest w aq nq cq k q) (hk : Kept S w w') (hS : ∀ g, aq = some ⟨g, 0, none⟩ → ¬ S g) : Rest w' aq nq cq k q := by
  intro g hg
  obtain ⟨cur, h1, h2⟩ := h g hg
  exact ⟨cur, (hk.block g (Array.getElem?_eq_some_iff.1 h1).1 (hS g hg)).trans h1, h2⟩

theorem Rest.start {B : Nat} {w : World} {aq : Option Addr} {nq cq : Nat} {q : List Ev} (h : OwnE B w (.slice aq nq cq) q) : Rest w aq nq cq 0 q ∧ OwnE B w (.slice aq 0 cq) [] ∧ nq = q.length ∧ (aq = none ∧ nq = 0 ∧ cq = 0 ∨ ∃ g, aq = some ⟨g, 0, none⟩ ∧ nq ≤ cq ∧ cq ≤ maxLen) := by
  rcases h.2 with ⟨h1, h0⟩ | ⟨r, cap, cur, h1, hB, hb, hc1, hc2, hc3, hc4⟩
  · injection h1 with e1 e2 e3
    subst e1 e2 e3
    exact ⟨fun g hg => (by cases hg), ⟨rfl, .inl ⟨rfl, rfl⟩⟩, h0.symm, .inl ⟨rfl, rfl, rfl⟩⟩
  · injection h1 with e1 e2 e3
    subst e1 e2 e3
    refine ⟨fun g hg => ?_, ⟨rfl, .inr ⟨r, cq, cur, rfl, hB, hb, Nat.zero_le _, hc2, hc3, by simp⟩⟩, rfl, .inr ⟨r, rfl, hc1, hc2⟩⟩
    injection hg with hg
    injection hg with hg
    subst hg
    exact ⟨cur, hb, hc3, hc1, hc2, by rw [Nat.zero_mul, List.drop_zero, List.drop_zero]; exact hc4⟩

theorem Rest.at_ {w : World} {aq : Option Addr} {nq cq k g : Nat} {q : List Ev} (h : Rest w aq nq cq k q) (hg : aq = some ⟨g, 0, none⟩) {x : Ev} (hx : q[k]? = some x) :
    g < w.heap.size ∧ w.cell? ⟨g, k * 3, none⟩ = some (.int .i64 x.time) ∧ w.cell? ⟨g, k * 3 + 1, none⟩ = some (.int .i64 x.place) ∧ w.cell? ⟨g, k * 3 + 2, none⟩ = some (.int .i64 x.n) := by
  obtain ⟨cur, h1, h2, h3, h4, h5⟩ := h g hg
  rw [drop_at hx, List.flatMap_cons] at h5
  have hc : ∀ j y, (evL x)[j]? = some y → w.cell? ⟨g, k * 3 + j, none⟩ = some y := by
    intro j y hj
    rw [cell_of_row w g (k * 3 + j) _ _ (0, 0) h1]
    have e1 : ((cur.toList.take (nq * 3)).drop (k * 3))[j]? = some y := by
      rw [h5, List.getElem?_append_left (lt_at hj)]; exact hj
    rw [List.getElem?_drop, List.getElem?_take] at e1
    split at e1
    · rw [← e1]; simp
    · cases e1
  exact ⟨(Array.getElem?_eq_some_iff.1 h1).1, hc 0 _ rfl, hc 1 _ rfl, hc 2 _ rfl⟩

theorem Rest.skip {w : World} {aq : Option Addr} {nq cq k : Nat} {q : List Ev} (h : Rest w aq nq cq k q) {x : Ev} (hx : q[k]? = some x) : Rest w aq nq cq (k + 1) q := by
  intro g hg
  obtain ⟨cur, h1, h2, h3, h4, h5⟩ := h g hg
  refine ⟨cur, h1, h2, h3, h4, ?_⟩
  rw [drop_at hx, List.flatMap_cons] at h5
  have e : (k + 1) * 3 = k * 3 + 3 := by omega
  rw [e, ← List.drop_drop, h5]
  rfl

set_option maxRecDepth 100000 in
/-- one event written at the head's end, in place -/
theorem Rest.put {B : Nat} {w : World} {g nq cq k : Nat} {q l : List Ev} {pre more : List Row} (h : Rest w (some ⟨g, 0, none⟩) nq cq k q) (hall : AllOwn B w (pre ++ evRow (.slice (some ⟨g, 0, none⟩) l.length cq) l :: more)) (hlk : l.length ≤ k) (hk : k < nq) {x : Ev} (hx : q[k]? = some x) (ty : TypeId) :
    ∃ W, (Builtin.append_ #[61, 61] ty #[.slice (some ⟨g, 0, none⟩) l.length cq, .slice (some ⟨w.heap.size, 0, none⟩) 1 1]).run Try.prog (w.alloc (.cells #[.int .i64 x.time, .int .i64 x.place, .int .i64 x.n] 65)) = .ok (.slice (some ⟨g, 0, none⟩) (l.length + 1) cq) W ∧
      AllOwn B W (pre ++ evRow (.slice (some ⟨g, 0, none⟩) (l.length + 1) cq) (l ++ [x]) :: more) ∧ Rest W (some ⟨g, 0, none⟩) nq cq (k + 1) q ∧ Kept (fun j => j = g) w W := by
  obtain ⟨cur, h1, h2, h3, h4, h5⟩ := h g rfl
  have hr := run_push_room (w := w) ty x h1 h2 (L := l.length) (by omega)
  have hlt : g < w.heap.size := (Array.getElem?_eq_some_iff.1 h1).1
  have hg2 : (w.alloc (.cells #[.int .i64 x.time, .int .i64 x.place, .int .i64 x.n] 65)).heap[g]? = some (.cells cur 65 (0, 0)) := (heap_alloc_old w _ hlt).trans h1
  have ho := hall.own (evRow (.slice (some ⟨g, 0, none⟩) l.length cq) l) (by simp)
  have hcl : cur.toList.length = cq * 3 := by simpa using h2
  have htk : cur.toList.take (l.length * 3) = l.flatMap evL := by
    rcases ho.2 with ⟨e, _⟩ | ⟨r, cap, cur', e, hB, hb, _, _, _, e4⟩
    · cases e
    · replace e : Value.slice (some ⟨g, 0, none⟩) l.length cq = .slice (some ⟨r, 0, none⟩) l.length cap := e
      simp only [Value.slice.injEq, Option.some.injEq, Addr.mk.injEq, true_and, and_true] at e
      obtain ⟨rfl, rfl⟩ := e
      replace hb : w.heap[g]? = some (.cells cur' 65 (0, 0)) := hb
      rw [hb] at h1
      injection h1 with h1
      injection h1 with h1
      subst h1
      exact e4
  have hBg : B ≤ g := (Row.lt ho rfl).1
  have hkp : Kept (fun j => j = g) w ((w.alloc (.cells #[.int .i64 x.time, .int .i64 x.place, .int .i64 x.n] 65)).setRow g (cur.toList.take (l.length * 3) ++ evL x ++ cur.toList.drop (l.length * 3 + 3)).toArray) :=
    ((Kept.refl _ w).alloc _).trans ⟨rfl, rfl, rfl, by simp, fun j _ hj => setRow_other _ _ _ _ hj⟩
  have hset := setRow_heap _ g cur (cur.toList.take (l.length * 3) ++ evL x ++ cur.toList.drop (l.length * 3 + 3)).toArray _ _ hg2
  have hlen : (cur.toList.take (l.length * 3) ++ evL x ++ cur.toList.drop (l.length * 3 + 3)).length = cq * 3 := by
    simp only [List.length_append, List.length_take, List.length_drop, evL_len, hcl]
    omega
  have ht1 : (cur.toList.take (l.length * 3)).length = l.length * 3 := by rw [List.length_take, hcl]; omega
  refine ⟨_, hr, ?_, ?_, hkp⟩
  · refine AllOwn.swap hall (hkp.mono (fun j _ e => by subst e; rfl)) (r' := evRow (.slice (some ⟨g, 0, none⟩) (l.length + 1) cq) (l ++ [x])) ?_ (.inl rfl)
    refine ⟨flat_len evL_len _, .inr ⟨g, cq, _, by simp [evRow], hBg, hset, ?_, h4, by show (cur.toList.take (l.length * 3) ++ evL x ++ cur.toList.drop (l.length * 3 + 3)).toArray.size = cq * 3; rw [List.size_toArray]; exact hlen, ?_⟩⟩
    · show (l ++ [x]).length ≤ cq
      rw [List.length_append, List.length_singleton]; omega
    · show ((cur.toList.take (l.length * 3) ++ evL x ++ cur.toList.drop (l.length * 3 + 3)).toArray.toList.take ((l ++ [x]).length * 3)) = (l ++ [x]).flatMap evL
      have e1 : (l ++ [x]).length * 3 = (cur.toList.take (l.length * 3) ++ evL x).length := by simp only [List.length_append, List.length_singleton, ht1, evL_len]; omega
      rw [e1, List.take_left, htk, List.flatMap_append]
      simp
  · intro g' hg'
    injection hg' with hg'
    injection hg' with hg'
    subst hg'
    refine ⟨_, hset, by rw [List.size_toArray]; exact hlen, h3, h4, ?_⟩
    have e2 := Rest.skip h hx g rfl
    obtain ⟨cur2, i1, i2, _, _, i5⟩ := e2
    rw [i1] at h1
    injection h1 with h1
    injection h1 with h1
    subst h1
    rw [← i5]
    apply List.ext_getElem?
    intro j
    simp only [List.getElem?_drop, List.getElem?_take]
    split
    · have e3 : (cur2.toList.take (l.length * 3) ++ evL x).length ≤ (k + 1) * 3 + j := by rw [List.length_append, ht1, evL_len]; omega
      rw [List.getElem?_append_right e3, List.getElem?_drop]
      have e4 : l.length * 3 + 3 + ((k + 1) * 3 + j - (cur2.toList.take (l.length * 3) ++ evL x).length) = (k + 1) * 3 + j := by rw [List.length_append, ht1, evL_len]; omega
      rw [e4]
    · rfl
end Go.Proofs.Ytpfdmmidomofdaa
