/-
  A run as far as the next time: one instant more.
  Conditions: none beyond each theorem's own.
-/
import Derived.Test.YtpbbdnicafifpaaRunQ
namespace Go.Proofs.Ytpbbdnicafifpaa
open Go.RowKit
set_option linter.unusedVariables false

theorem times_ends {n : Nt} (hn : NOk n) {x : Int} {u : St} {tl : Int} : ∀ (k : Nat) (t : Int) (s : St), Inv n t s → t ≤ x → (x - t).toNat + 1 ≤ k → times n.trans x k t s = (u, tl, 0) → ¬ (0 ≤ nextT u.q ∧ nextT u.q ≤ x)
  | 0, t, s, hI, ht, hk, he => by omega
  | k + 1, t, s, hI, ht, hk, he => by
    obtain ⟨i1, i2, _⟩ := instAll_inv hn hI
    by_cases hr : (instAll n.trans t s).2 = 0
    · rw [times_go hr] at he
      by_cases hc : 0 ≤ nextT (instAll n.trans t s).1.q ∧ nextT (instAll n.trans t s).1.q ≤ x
      · rw [if_pos hc] at he
        obtain ⟨x1, x2, _⟩ := next_inv i1 i2 hc.1
        exact times_ends hn k _ _ x2 hc.2 (by omega) he
      · rw [if_neg hc] at he
        injection he with h1 h2
        rw [← h1]; exact hc
    · rw [times_err hr] at he
      injection he with h1 h2
      injection h2 with h2 h3
      exact absurd h3 hr

theorem times_one {n : Nt} (hn : NOk n) {z : Int} {s : St} (hI : Inv n z s) (k : Nat) : times n.trans z (k + 1) z s = ((instAll n.trans z s).1, z, (instAll n.trans z s).2) := by
  obtain ⟨i1, i2, _⟩ := instAll_inv hn hI
  by_cases hr : (instAll n.trans z s).2 = 0
  · rw [times_go hr, if_neg, hr]
    rintro ⟨h1, h2⟩
    obtain ⟨x1, x2, _⟩ := next_inv i1 i2 h1
    omega
  · rw [times_err hr]

theorem times_next {n : Nt} (hn : NOk n) {x z : Int} {u : St} {tl : Int} (hxz : x < z) (hz : nextT u.q = z) (h0 : 0 ≤ z) : ∀ (k m : Nat) (t : Int) (s : St), Inv n t s → t ≤ x → (x - t).toNat + 1 ≤ k → (z - t).toNat + 1 ≤ m → times n.trans x k t s = (u, tl, 0) → times n.trans z m t s = ((instAll n.trans z u).1, z, (instAll n.trans z u).2)
  | 0, m, t, s, hI, ht, hk, hm, he => by omega
  | k + 1, 0, t, s, hI, ht, hk, hm, he => by omega
  | k + 1, m + 1, t, s, hI, ht, hk, hm, he => by
    obtain ⟨i1, i2, _⟩ := instAll_inv hn hI
    by_cases hr : (instAll n.trans t s).2 = 0
    · rw [times_go hr] at he ⊢
      by_cases hc : 0 ≤ nextT (instAll n.trans t s).1.q ∧ nextT (instAll n.trans t s).1.q ≤ x
      · rw [if_pos hc] at he
        rw [if_pos ⟨hc.1, by omega⟩]
        obtain ⟨x1, x2, _⟩ := next_inv i1 i2 hc.1
        exact times_next hn hxz hz h0 k m _ _ x2 hc.2 (by omega) (by omega) he
      · rw [if_neg hc] at he
        injection he with h1 h2
        rw [h1, hz, if_pos ⟨h0, Int.le_refl _⟩]
        obtain ⟨m', rfl⟩ : ∃ m', m = m' + 1 := ⟨m - 1, by omega⟩
        rw [h1] at i1 i2
        have := (next_inv i1 i2 (by rw [hz]; exact h0)).2.1
        rw [hz] at this
        exact times_one hn this m'
    · rw [times_err hr] at he
      injection he with h1 h2
      injection h2 with h2 h3
      exact absurd h3 hr

theorem runN_zero {n : Nt} (hn : NOk n) : runN n 0 = ((instAll n.trans 0 (start n)).1, 0, (instAll n.trans 0 (start n)).2) := by
  unfold runN
  rw [if_pos (Int.le_refl _)]
  exact times_one hn (start_inv hn) 0
theorem runN_next {n : Nt} (hn : NOk n) {t z : Int} {u : St} (ht : 0 ≤ t) (he : runN n t = (u, t, 0)) (hz : nextT u.q = z) (h0 : 0 ≤ z) : t < z ∧ runN n z = ((instAll n.trans z u).1, z, (instAll n.trans z u).2) := by
  unfold runN at he ⊢
  rw [if_pos ht] at he
  rw [if_pos h0]
  have h1 := times_ends hn _ _ _ (start_inv hn) ht (by omega) he
  rw [hz] at h1
  exact ⟨by omega, times_next hn (by omega) hz h0 _ _ _ _ (start_inv hn) ht (by omega) (by omega) he⟩
end Go.Proofs.Ytpbbdnicafifpaa
