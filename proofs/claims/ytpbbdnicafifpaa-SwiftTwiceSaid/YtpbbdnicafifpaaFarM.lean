/-
  A farther horizon: the beginning is the same, and what follows is later.
  Conditions: none beyond each theorem's own.
-/
import Derived.Test.YtpbbdnicafifpaaRunQ
namespace Go.Proofs.Ytpbbdnicafifpaa
open Go.RowKit
set_option linter.unusedVariables false

theorem inst_ext {ts : List Tr} {t : Int} : ∀ (k : Nat) (c : List Int) (s : St), ∃ r, (inst ts t k c s).1.log = s.log ++ r ∧ ∀ e ∈ r, t ≤ e.1
  | 0, c, s => ⟨[], by simp [inst], fun e he => by cases he⟩
  | k + 1, c, s => by
    rw [inst]
    split
    · exact ⟨[], by simp, fun e he => by cases he⟩
    split
    · exact ⟨[], by simp, fun e he => by cases he⟩
    split
    · exact ⟨[], by simp, fun e he => by cases he⟩
    · obtain ⟨r, h1, h2⟩ := inst_ext (ts := ts) (t := t) k (c.set (bestTo s.m ts ts.length).toNat (getI c (bestTo s.m ts ts.length) + 1)) (fire t (bestTo s.m ts ts.length).toNat (ts.getD (bestTo s.m ts ts.length).toNat Tr.none) s)
      refine ⟨(t, ((bestTo s.m ts ts.length).toNat : Int)) :: r, ?_, fun e he => ?_⟩
      · rw [h1]
        show (s.log ++ [(t, ((bestTo s.m ts ts.length).toNat : Int))]) ++ r = _
        simp
      · rcases List.mem_cons.1 he with rfl | he
        · exact Int.le_refl _
        · exact h2 e he
theorem instAll_ext {ts : List Tr} {t : Int} {s : St} : ∃ r, (instAll ts t s).1.log = s.log ++ r ∧ ∀ e ∈ r, t ≤ e.1 := inst_ext 2001 _ (arrive t s)

theorem times_ext {n : Nt} (hn : NOk n) (h : Int) : ∀ (k : Nat) (t : Int) (s : St), Inv n t s → ∃ r, (times n.trans h k t s).1.log = s.log ++ r ∧ ∀ e ∈ r, t ≤ e.1
  | 0, t, s, hI => ⟨[], by simp [times], fun e he => by cases he⟩
  | k + 1, t, s, hI => by
    obtain ⟨i1, i2, _⟩ := instAll_inv hn hI
    obtain ⟨r, h1, h2⟩ := instAll_ext (ts := n.trans) (t := t) (s := s)
    by_cases hr : (instAll n.trans t s).2 = 0
    · rw [times_go hr]
      split
      · rename_i hc
        obtain ⟨x1, x2, _⟩ := next_inv i1 i2 hc.1
        obtain ⟨r2, h3, h4⟩ := times_ext hn h k _ _ x2
        refine ⟨r ++ r2, by rw [h3, h1, List.append_assoc], fun e he => ?_⟩
        rcases List.mem_append.1 he with he | he
        · exact h2 e he
        · have := h4 e he; omega
      · exact ⟨r, h1, h2⟩
    · rw [times_err hr]; exact ⟨r, h1, h2⟩

/-- what a run up to x and one up to y have to do with each other -/
def FarOk (x : Int) (P Q : St × Int × Int) : Prop := (∃ r, Q.1.log = P.1.log ++ r ∧ (P.2.2 = 0 → ∀ e ∈ r, x < e.1)) ∧ (P.2.2 ≠ 0 → Q.2.2 = P.2.2)
theorem FarOk.same (x : Int) (P : St × Int × Int) : FarOk x P P := ⟨⟨[], by simp, fun _ e he => by cases he⟩, fun _ => rfl⟩

theorem times_far {n : Nt} (hn : NOk n) {x y : Int} (hxy : x ≤ y) : ∀ (k m : Nat) (t : Int) (s : St), Inv n t s → t ≤ x → (x - t).toNat + 1 ≤ k → (y - t).toNat + 1 ≤ m → FarOk x (times n.trans x k t s) (times n.trans y m t s)
  | 0, m, t, s, hI, ht, hk, hm => by omega
  | k + 1, 0, t, s, hI, ht, hk, hm => by omega
  | k + 1, m + 1, t, s, hI, ht, hk, hm => by
    obtain ⟨i1, i2, _⟩ := instAll_inv hn hI
    by_cases hr : (instAll n.trans t s).2 = 0
    · rw [times_go hr, times_go hr]
      by_cases hc : 0 ≤ nextT (instAll n.trans t s).1.q ∧ nextT (instAll n.trans t s).1.q ≤ x
      · rw [if_pos hc, if_pos ⟨hc.1, by omega⟩]
        obtain ⟨x1, x2, _⟩ := next_inv i1 i2 hc.1
        exact times_far hn hxy k m _ _ x2 hc.2 (by omega) (by omega)
      · rw [if_neg hc]
        by_cases hd : 0 ≤ nextT (instAll n.trans t s).1.q ∧ nextT (instAll n.trans t s).1.q ≤ y
        · rw [if_pos hd]
          obtain ⟨x1, x2, _⟩ := next_inv i1 i2 hd.1
          obtain ⟨r, h1, h2⟩ := times_ext hn y m _ _ x2
          exact ⟨⟨r, h1, fun _ e he => by have := h2 e he; omega⟩, fun h => absurd rfl h⟩
        · rw [if_neg hd]; exact FarOk.same x _
    · rw [times_err hr, times_err hr]; exact FarOk.same x _
theorem runN_far {n : Nt} (hn : NOk n) {x y : Int} (h0 : 0 ≤ x) (hxy : x ≤ y) : FarOk x (runN n x) (runN n y) := by
  unfold runN
  rw [if_pos h0, if_pos (by omega)]
  exact times_far hn hxy _ _ _ _ (start_inv hn) h0 (by omega) (by omega)
theorem runN_none {n : Nt} {h : Int} (h0 : h < 0) : runN n h = (start n, 0, 0) := by unfold runN; rw [if_neg (by omega)]
end Go.Proofs.Ytpbbdnicafifpaa
