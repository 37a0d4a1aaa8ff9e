/-
  A map of ints to ints in memory, as a function of numbers below a bound: looking up, missing, storing.
  Conditions: keys and values are natural numbers below 1000000.
-/
import Derived.Test.YthpcaamfcmjnmaaKept
import Derived.Maps.OwnSet
namespace Go.Proofs.Ythpcaamfcmjnmaa
open Go.RowKit

theorem Try.intKeyed : Maps.Keyed Try.prog 3 := Maps.int_keyed Try.underlying3

/-- how many numbers below m have a value -/
def cnt (f : Nat → Option Nat) (m : Nat) : Nat := ((List.range m).filter (fun c => (f c).isSome)).length

theorem cnt_le (f : Nat → Option Nat) (m : Nat) : cnt f m ≤ m := by
  have := List.length_filter_le (fun c => (f c).isSome) (List.range m)
  simpa [cnt] using this

/-- f with one value laid -/
def upd (f : Nat → Option Nat) (c p : Nat) : Nat → Option Nat := fun a => if a = c then some p else f a

theorem cnt_succ (f : Nat → Option Nat) (m : Nat) : cnt f (m + 1) = cnt f m + (if (f m).isSome then 1 else 0) := by
  simp only [cnt, List.range_succ, List.filter_append, List.length_append]
  split <;> rename_i h <;> simp [h]

theorem cnt_out (f : Nat → Option Nat) (c p m : Nat) (h : m ≤ c) : cnt (upd f c p) m = cnt f m := by
  induction m with
  | zero => rfl
  | succ m ih => rw [cnt_succ, cnt_succ, ih (by omega)]; simp [upd, show m ≠ c by omega]

theorem cnt_upd (f : Nat → Option Nat) (c p m : Nat) (h : c < m) : cnt (upd f c p) m = if (f c).isSome then cnt f m else cnt f m + 1 := by
  induction m with
  | zero => omega
  | succ m ih =>
    rw [cnt_succ, cnt_succ]
    by_cases hm : c = m
    · subst hm
      rw [cnt_out f c p c (Nat.le_refl _)]
      have e : (upd f c p c).isSome = true := by simp [upd]
      rw [e]
      cases (f c).isSome <;> simp
    · rw [ih (by omega)]
      have e : upd f c p m = f m := by simp [upd, show m ≠ c by omega]
      rw [e]
      split <;> split <;> omega

/-- block b is a map that holds f, whose keys lie below m -/
def IMap (w : World) (b : Nat) (f : Nat → Option Nat) (m : Nat) : Prop :=
  ∃ D : DataW Unit, w.ownsMap Try.prog 3 (plainElem Try.prog 3) b (Maps.size D) D ∧ Maps.size D = cnt f m ∧
    (∀ c : Nat, Maps.has D (.int .i64 c) = (f c).isSome) ∧ (∀ c p : Nat, f c = some p → c < m ∧ D.atKey (.int .i64 c) (.lit (.int .i64 0)) = .lit (.int .i64 p))

theorem tight {H : Type} {w : World} {P : Program} {k : TypeId} {R : Value → Option (DataW H × List MemPlace)} {b n : Nat} {D : DataW H} (h : w.ownsMap P k R b n D) : w.ownsMap P k R b (Maps.size D) D := by
  obtain ⟨es, clock, hb, F, _, rfl⟩ := h
  exact ⟨es, clock, hb, F, by simp [Maps.size, length_sorted], rfl⟩

section
variable {w w' : World} {b m : Nat} {f : Nat → Option Nat}

theorem IMap.lt (h : IMap w b f m) : b < w.heap.size := let ⟨_, h, _⟩ := h; h.lt

theorem IMap.same (h : IMap w b f m) (hb : w'.heap[b]? = w.heap[b]?) : IMap w' b f m := by
  obtain ⟨D, ⟨es, clock, h1, h2⟩, h3⟩ := h
  exact ⟨D, ⟨es, clock, hb.trans h1, h2⟩, h3⟩

theorem IMap.new (w : World) (m : Nat) : IMap (w.alloc (.map #[] 0)) w.heap.size (fun _ => none) m :=
  ⟨.map [], World.ownsMap_made w _ _ _, by rw [show cnt (fun _ => none) m = 0 by unfold cnt; induction m with | zero => rfl | succ m ih => simp [List.range_succ] at *]; rfl, fun c => by simp [Maps.has], fun c p h => by simp at h⟩

theorem wf_nat (c : Nat) (h : c < 1000000) : (Lit.int .i64 (c : Int)).wf = true := by
  simp [Lit.wf, IntKind.min, IntKind.max, IntKind.signed, IntKind.bits]; omega

theorem IMap.look (h : IMap w b f m) (hm : m ≤ 1000000) {c p : Nat} (hc : f c = some p) :
    (Instr.lookup 57 (.map (some b)) (.int .i64 c) false).run Try.prog w = .ok (.int .i64 p) w := by
  obtain ⟨D, h1, h2, h3, h4⟩ := h
  obtain ⟨hcm, hat⟩ := h4 c p hc
  obtain ⟨v, hrun, hv, _⟩ := h1.lookup_int (t := 57) Try.intKeyed Try.underlying57 Try.underlying3 (by kernel_rfl) (Maps.keyOf_int_mk Try.underlying3 (wf_nat c (by omega)))
  rw [hat] at hv
  injection hv with hv
  injection hv with _ hv
  rw [hrun, hv]

theorem IMap.look_ok (h : IMap w b f m) (hm : m ≤ 1000000) {c p : Nat} (hc : f c = some p) :
    (Instr.lookup 57 (.map (some b)) (.int .i64 c) true).run Try.prog w = .ok (.tuple #[.int .i64 p, .bool true]) w := by
  obtain ⟨D, h1, h2, h3, h4⟩ := h
  obtain ⟨hcm, hat⟩ := h4 c p hc
  obtain ⟨v, ps, hrun, hv⟩ := h1.look_ok (t := 57) Try.intKeyed Try.underlying57 (by kernel_rfl) (plainElem_int (a := 0) Try.underlying3 (by decide)) (Maps.keyOf_int_mk Try.underlying3 (wf_nat c (by omega)))
  obtain ⟨a, rfl, hc2, _⟩ := plainElem_int_inv Try.underlying3 hv
  simp only [Prod.mk.injEq] at hc2
  rw [hat] at hc2
  obtain ⟨hc2, _⟩ := hc2
  injection hc2 with hc2
  injection hc2 with _ hc2
  rw [hrun, h3 c, hc, hc2]
  rfl

theorem IMap.miss (h : IMap w b f m) {c : Nat} (hcm : c < 1000000) (hc : f c = none) :
    (Instr.lookup 57 (.map (some b)) (.int .i64 c) true).run Try.prog w = .ok (.tuple #[.int .i64 0, .bool false]) w := by
  obtain ⟨D, h1, h2, h3, h4⟩ := h
  obtain ⟨v, ps, hrun, hv⟩ := h1.look_ok (t := 57) Try.intKeyed Try.underlying57 (by kernel_rfl) (plainElem_int (a := 0) Try.underlying3 (by decide)) (Maps.keyOf_int_mk Try.underlying3 (wf_nat c hcm))
  obtain ⟨a, rfl, hc2, _⟩ := plainElem_int_inv Try.underlying3 hv
  simp only [Prod.mk.injEq] at hc2
  have hh : Maps.has D (.int .i64 c) = false := by rw [h3 c, hc]; rfl
  rw [Maps.atKey_of_not_has hh] at hc2
  obtain ⟨hc2, _⟩ := hc2
  injection hc2 with hc2
  injection hc2 with _ hc2
  rw [hrun, hh, ← hc2]

theorem IMap.store (h : IMap w b f m) (hm : m ≤ 1000000) {c p : Nat} (hc : c < m) (hp : p < 1000000) :
    ∃ w', (Instr.mapUpdate 57 (.map (some b)) (.int .i64 c) (.int .i64 p)).run Try.prog w = .ok () w' ∧ IMap w' b (upd f c p) m ∧ w.grownBy w' (some b) := by
  obtain ⟨D, h1, h2, h3, h4⟩ := h
  have hle := cnt_le f m
  obtain ⟨w', hrun, ho, hg⟩ := h1.update (t := 57) Try.intKeyed Try.underlying57 (by rw [h2]; unfold maxLen; omega) (Maps.keyOf_int_mk Try.underlying3 (wf_nat c (by omega))) (plainElem_int Try.underlying3 (wf_nat p hp))
  refine ⟨w', hrun, ⟨D.put (.int .i64 c) (.lit (.int .i64 p)), tight ho, ?_, ?_, ?_⟩, hg⟩
  · rw [Maps.size_put (h1.tidy Try.intKeyed), h3 c, h2, cnt_upd f c p m hc]
  · intro a
    by_cases ha : a = c
    · subst ha
      rw [Maps.has_put_same h1.isMap (by trivial)]
      simp [upd]
    · rw [Maps.has_put_other (by simpa using fun e => ha (by omega)), h3 a]
      simp [upd, ha]
  · intro a q ha
    by_cases hac : a = c
    · subst hac
      simp only [upd, if_true] at ha
      injection ha with ha
      subst ha
      exact ⟨hc, Maps.atKey_put_same h1.isMap (by trivial) _ _⟩
    · simp only [upd, hac, if_false] at ha
      rw [Maps.atKey_put_other (by simpa using fun e => hac (by omega))]
      exact h4 a q ha

end

end Go.Proofs.Ythpcaamfcmjnmaa
