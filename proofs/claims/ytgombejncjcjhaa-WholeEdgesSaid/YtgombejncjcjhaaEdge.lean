/-
  Plain facts on the edges of ints: with W a power of 2 from 2 to 2^61 and Q the greatest int divided by W, (Q + 1) times W is 2^63.
  Conditions: none beyond each theorem's own.
-/
import Derived.Test.YtgombejncjcjhaaMul
namespace Go.Proofs.Ytgombejncjcjhaa
open Go.RowKit

theorem edge_nat : ∀ m, m < 61 → (9223372036854775807 / (2 * 2 ^ m) + 1) * (2 * 2 ^ m) = 9223372036854775808 ∧ 2 ≤ 2 * 2 ^ m ∧ 2 * 2 ^ m ≤ 2305843009213693952 := by decide +kernel

theorem edge (m : Nat) (h : m < 61) : ∃ W Q : Int, wrap64 (2 * 2 ^ m) = W ∧ 9223372036854775807 / W = Q ∧ 2 ≤ W ∧ W ≤ 2305843009213693952 ∧ 0 ≤ Q ∧ (Q + 1) * W = 9223372036854775808 := by
  obtain ⟨h1, h2, h3⟩ := edge_nat m h
  obtain ⟨N, hN⟩ : ∃ N : Nat, N = 2 * 2 ^ m := ⟨_, rfl⟩
  have e : (2 * 2 ^ m : Int) = (N : Int) := by rw [hN]; simp
  rw [← hN] at h1 h2 h3
  rw [e]
  obtain ⟨M, hM, hM'⟩ : ∃ M : Nat, (M : Int) = 9223372036854775807 ∧ M = 9223372036854775807 := ⟨9223372036854775807, rfl, rfl⟩
  rw [← hM'] at h1
  have g1 : (((M / N + 1) * N : Nat) : Int) = ((9223372036854775808 : Nat) : Int) := by rw [h1]
  rw [Int.natCast_mul, Int.natCast_add, Int.natCast_ediv, hM] at g1
  have hd : 0 ≤ (9223372036854775807 : Int) / (N : Int) := Int.ediv_nonneg (by omega) (by omega)
  exact ⟨(N : Int), _, wrap_id _ ⟨by omega, by omega⟩, rfl, by omega, by omega, hd, g1⟩

theorem edge_muls (W Q : Int) (h2 : 2 ≤ W) (h3 : W ≤ 2305843009213693952) (h0 : 0 ≤ Q) (hp : (Q + 1) * W = 9223372036854775808) :
    I64 (Q * W) ∧ ¬ I64 ((Q + 1) * W) ∧ I64 (-W * (Q + 1)) ∧ -W * (Q + 1) = -9223372036854775808 := by
  have e1 : (Q + 1) * W = Q * W + W := by rw [Int.add_mul, Int.one_mul]
  have e2 : -W * (Q + 1) = -((Q + 1) * W) := by rw [Int.neg_mul, Int.mul_comm]
  have e3 : 0 ≤ Q * W := Int.mul_nonneg h0 (by omega)
  unfold I64
  refine ⟨by omega, by omega, by omega, by omega⟩

end Go.Proofs.Ytgombejncjcjhaa
