/-
  What a run comes to is what was there, and what its firings change, by how often each has fired: the plain facts.
  Conditions: none beyond each theorem's own.
-/
import Derived.Test.YtpbbdnicafifpaaMx2
import Derived.Test.YtpbbdnicafifpaaCountsM
import Derived.Test.YtpbbdnicafifpaaTimesM
namespace Go.Proofs.Ytpbbdnicafifpaa
open Go.RowKit
set_option linter.unusedVariables false

theorem sumA_arcAt (l : List (Int × Int)) (p : Nat) : sumA l p = arcAt l p := by
  induction l with
  | nil => rfl
  | cons a l ih =>
    rw [arcAt, ← ih]
    unfold sumA
    rw [List.filter_cons]
    by_cases e : a.1 = (p : Int)
    · simp [e]
    · simp [e]

/-- how often a transition stands in a log -/
def cntL (l : List (Int × Int)) (k : Nat) : Int := match l with | [] => 0 | a :: r => (if a.2 = (k : Int) then 1 else 0) + cntL r k
theorem cntL_append (a b : List (Int × Int)) (k : Nat) : cntL (a ++ b) k = cntL a k + cntL b k := by
  induction a with
  | nil => simp [cntL]
  | cons x a ih => rw [List.cons_append, cntL, cntL, ih]; omega
theorem cntL_bd (k : Nat) : ∀ l : List (Int × Int), 0 ≤ cntL l k ∧ cntL l k ≤ l.length
  | [] => by simp [cntL]
  | a :: r => by
    have := cntL_bd k r
    rw [cntL, List.length_cons]
    split <;> omega
theorem cntL_take {l : List (Int × Int)} {i : Nat} {x : Int × Int} (h : l[i]? = some x) (k : Nat) : cntL (l.take (i + 1)) k = cntL (l.take i) k + (if x.2 = (k : Int) then 1 else 0) := by
  rw [take_at h, cntL_append]; simp [cntL]

/-- the sum of c numbers -/
def sumF (c : Nat) (h : Nat → Int) : Int := (rowF c h).sum
theorem sumF_succ (c : Nat) (h : Nat → Int) : sumF (c + 1) h = sumF c h + h c := by unfold sumF; rw [rowF_succ, List.sum_append]; simp
theorem sumF_zero (h : Nat → Int) : sumF 0 h = 0 := rfl
theorem sumF_congr {c : Nat} {f g : Nat → Int} (h : ∀ k, k < c → f k = g k) : sumF c f = sumF c g := by unfold sumF; rw [rowF_congr h]
theorem sumF_one (c q : Nat) (h : Nat → Int) (z : Int) : sumF c (fun k => h k + (if k = q then z else 0)) = sumF c h + (if q < c then z else 0) := by
  induction c with
  | zero => simp [sumF_zero]
  | succ c ih =>
    rw [sumF_succ, sumF_succ, ih]
    by_cases e : q < c
    · have e1 : ¬ c = q := by omega
      have e2 : q < c + 1 := by omega
      simp only [if_pos e, if_neg e1, if_pos e2]; omega
    · by_cases e3 : c = q
      · have e2 : q < c + 1 := by omega
        simp only [if_neg e, if_pos e3, if_pos e2]; omega
      · have e2 : ¬ q < c + 1 := by omega
        simp only [if_neg e, if_neg e3, if_neg e2]; omega
theorem sumF_nought (c : Nat) {f : Nat → Int} (h : ∀ k, k < c → f k = 0) : sumF c f = 0 := by
  induction c with
  | zero => rfl
  | succ c ih => rw [sumF_succ, ih (fun k hk => h k (by omega)), h c (by omega)]; rfl

/-- small products: their sum is an int all along -/
theorem dots_small : ∀ (l : List (Int × Int)) (s : Int), (∀ a ∈ l, -100000000000 ≤ a.1 * a.2 ∧ a.1 * a.2 ≤ 100000000000) → -1000000000000000000 + 100000000000 * (l.length : Int) ≤ s → s ≤ 1000000000000000000 - 100000000000 * (l.length : Int) → dots s (l.map (·.1)) (l.map (·.2)) = some (s + (l.map (fun a => a.1 * a.2)).sum) := by
  intro l
  induction l with
  | nil => intro s _ _ _; simp [dots]
  | cons a l ih =>
    intro s h h1 h2
    have ha := h a (by simp)
    rw [List.length_cons] at h1 h2
    have e1 : I64 (a.1 * a.2) := by unfold I64; omega
    have e2 : I64 (s + a.1 * a.2) := by unfold I64; omega
    have ih2 := ih (s + a.1 * a.2) (fun b hb => h b (by simp [hb])) (by omega) (by omega)
    rw [List.map_cons, List.map_cons, List.map_cons, List.sum_cons, dots, if_pos e1, if_pos e2, ih2, Int.add_assoc]
theorem dots_rows (c : Nat) (f g : Nat → Int) (hc : c ≤ 1000) (h : ∀ k, k < c → -100000000000 ≤ f k * g k ∧ f k * g k ≤ 100000000000) : dots 0 (rowF c f) (rowF c g) = some (sumF c (fun k => f k * g k)) := by
  have e := dots_small ((List.range c).map (fun k => (f k, g k))) 0 (fun a ha => by
    obtain ⟨k, hk, rfl⟩ := List.mem_map.1 ha
    exact h k (List.mem_range.1 hk)) (by simp; omega) (by simp; omega)
  simp only [List.map_map, Int.zero_add] at e
  exact e

theorem mul_bd {a b : Int} (ha : -8000000 ≤ a ∧ a ≤ 8000000) (hb : 0 ≤ b ∧ b ≤ 2000) : -100000000000 ≤ a * b ∧ a * b ≤ 100000000000 := by
  have h1 : (a * b).natAbs ≤ 8000000 * 2000 := by
    rw [Int.natAbs_mul]
    exact Nat.mul_le_mul (by omega) (by omega)
  omega

theorem chT_bd {n : Nt} (hn : NOk n) (p k : Nat) : -8000000 ≤ chT n.trans p k ∧ chT n.trans p k ≤ 8000000 := by
  unfold chT
  cases h : n.trans[k]? with
  | none => simp
  | some t =>
    have hm := List.mem_of_getElem? h
    have h1 := sumA_bd (l := t.out) (fun a ha => by have := (hn.out t hm a ha).2; omega) p
    have h2 := sumA_bd (l := t.inn) (fun a ha => by have := (hn.inn t hm a ha).2; omega) p
    have h3 := hn.len t hm
    simp only
    omega

/-- what the firings of a log change -/
theorem want_sum {n : Nt} (p : Nat) : ∀ l : List (Int × Int), (∀ x ∈ l, 0 ≤ x.2 ∧ x.2 < n.trans.length) → wantAt n l p = getI (n.places.map (·.tok)) p + sumF n.trans.length (fun k => chT n.trans p k * cntL l k)
  | [], _ => by rw [wantAt, sumF_nought _ (fun k hk => by simp [cntL])]; omega
  | x :: r, h => by
    have ih := want_sum p r (fun y hy => h y (by simp [hy]))
    obtain ⟨h0, h1⟩ := h x (by simp)
    obtain ⟨q, hq⟩ : ∃ q : Nat, x.2 = q := ⟨x.2.toNat, by omega⟩
    obtain ⟨t, ht⟩ := at_lt (l := n.trans) (k := q) (by omega)
    have e : sumF n.trans.length (fun k => chT n.trans p k * cntL (x :: r) k) = sumF n.trans.length (fun k => chT n.trans p k * cntL r k) + (if q < n.trans.length then chT n.trans p q else 0) := by
      rw [← sumF_one]
      refine sumF_congr fun k hk => ?_
      rw [cntL, hq]
      by_cases e : k = q
      · subst e
        rw [if_pos rfl, if_pos rfl, Int.mul_add]; omega
      · rw [if_neg (by omega), if_neg e]; simp
    rw [wantAt, ih, e, if_pos (by omega), chT_at ht, sumA_arcAt, sumA_arcAt, hq]
    have e2 : n.trans.getD ((q : Int).toNat) Tr.none = t := by simp [List.getD, ht]
    rw [e2]
    omega
end Go.Proofs.Ytpbbdnicafifpaa
