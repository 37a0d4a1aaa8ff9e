/-
  The document's own Mul is the product where that is an int, and (0, false) where it is none.
  Conditions: each argument is an int.
-/
import Derived.Test.YtgombejncjcjhaaMulb
namespace Go.Proofs.Ytgombejncjcjhaa
open Go.RowKit

theorem le_quo (x y m : Int) (hy : 1 ≤ y) : x ≤ m / y ↔ x * y ≤ m := Int.le_ediv_iff_mul_le (by omega)

theorem prod_pos (x y : Int) (hx : 1 ≤ x) (hy : 1 ≤ y) : 1 ≤ x * y := by
  have := Int.mul_pos (a := x) (b := y) (by omega) (by omega)
  omega

theorem even_of (x y : Int) (hx : 1 ≤ x) (hy : 1 ≤ y) (hy2 : y ≤ 9223372036854775807) (h : x * y = 9223372036854775808) : x % 2 = 0 := by
  rcases Int.emod_two_eq x with h0 | h1
  · exact h0
  · exfalso
    obtain ⟨m, rfl⟩ := Int.eq_ofNat_of_zero_le (show 0 ≤ x by omega)
    obtain ⟨n, rfl⟩ := Int.eq_ofNat_of_zero_le (show 0 ≤ y by omega)
    have hN : m * n = 2 ^ 63 := by
      have : ((m * n : Nat) : Int) = ((2 ^ 63 : Nat) : Int) := by rw [Int.natCast_mul, h]; rfl
      exact_mod_cast this
    have hd : m ∣ 2 ^ 63 := ⟨n, hN.symm⟩
    have hg : Nat.gcd m 2 = 1 := by
      rw [Nat.gcd_comm, Nat.gcd_rec]
      have : m % 2 = 1 := by omega
      rw [this]; rfl
    have hc : Nat.Coprime m (2 ^ 63) := Nat.Coprime.pow_right 63 hg
    have h1' : m = 1 := Nat.Coprime.eq_one_of_dvd hc hd
    subst h1'
    omega

theorem half_mul (x y : Int) (h : x % 2 = 0) : x * y = 2 * (x / 2 * y) := by
  have : x = 2 * (x / 2) := by omega
  conv => lhs; rw [this]
  rw [Int.mul_assoc]

theorem chain_no (x y : Int) (hx : 1 ≤ x) (hy : 1 ≤ y) (hp : x * y ≠ 9223372036854775808) :
    (x % 2 == 0) = false ∨ ((x % 2 == 0) = true ∧ decide (x / 2 ≤ 9223372036854775807 / y) = false) ∨ ((x % 2 == 0) = true ∧ decide (x / 2 ≤ 9223372036854775807 / y) = true ∧ (wrap64 (x / 2 * y) == 4611686018427387904) = false) := by
  by_cases he : x % 2 = 0
  · by_cases hq : x / 2 ≤ 9223372036854775807 / y
    · refine .inr (.inr ⟨by simpa using he, by simpa using hq, ?_⟩)
      rw [le_quo _ _ _ hy] at hq
      have h2 := half_mul x y he
      have h3 : 0 ≤ x / 2 * y := Int.mul_nonneg (by omega) (by omega)
      rw [wrap_id _ (by unfold I64; omega), beq_eq_false_iff_ne]
      omega
    · exact .inr (.inl ⟨by simpa using he, by simpa using hq⟩)
  · exact .inl (by simpa using he)

theorem rmul_ok (a b : Int) (w : World) (ha : I64 a) (hb : I64 b) (hs : I64 (a * b)) :
    Calls Try.prog 19 #[.int .i64 a, .int .i64 b] w fun e w' => e = .returned (.tuple #[.int .i64 (a * b), .bool true]) ∧ w = w' := by
  by_cases h0 : a = 0 ∨ b = 0
  · have hz : a * b = 0 := by rcases h0 with rfl | rfl <;> simp
    rw [hz]
    exact rmul_zero a b w h0
  by_cases hl : a = -9223372036854775808 ∨ b = -9223372036854775808
  · have h1 := rmul_least a b w (by omega) (by omega) hl
    have h2 : a = 1 ∨ b = 1 := by
      rcases hl with rfl | rfl
      · right; unfold I64 at hs; omega
      · left; unfold I64 at hs; omega
    have h3 : a * b = -9223372036854775808 := by
      rcases h2 with rfl | rfl <;> rcases hl with h | h <;> omega
    rw [if_pos h2] at h1
    rw [h3]
    exact h1
  unfold I64 at ha hb hs
  by_cases ha0 : a < 0 <;> by_cases hb0 : b < 0
  · obtain ⟨x, rfl⟩ : ∃ x, a = -x := ⟨-a, by omega⟩
    obtain ⟨y, rfl⟩ : ∃ y, b = -y := ⟨-b, by omega⟩
    have e : -x * -y = x * y := Int.neg_mul_neg x y
    rw [e] at hs ⊢
    exact rmul_nn_ok x y w (by omega) (by omega) (by omega) (by omega) ((le_quo _ _ _ (by omega)).2 hs.2) (prod_pos _ _ (by omega) (by omega)) hs.2
  · obtain ⟨x, rfl⟩ : ∃ x, a = -x := ⟨-a, by omega⟩
    have e : -x * b = -(x * b) := Int.neg_mul x b
    rw [e] at hs ⊢
    have hp := prod_pos x b (by omega) (by omega)
    by_cases hm : x * b ≤ 9223372036854775807
    · exact rmul_np_ok x b w (by omega) (by omega) (by omega) (by omega) ((le_quo _ _ _ (by omega)).2 hm) hp hm
    · have hE : x * b = 9223372036854775808 := by omega
      have he := even_of x b (by omega) (by omega) (by omega) hE
      have h2 := half_mul x b he
      rw [hE]
      refine rmul_np_least x b w (by omega) (by omega) (by omega) (by omega) ?_ (by simpa using he) ((le_quo _ _ _ (by omega)).2 (by omega)) (by omega) (by omega) (by rw [beq_iff_eq]; omega)
      have := (le_quo x b 9223372036854775807 (by omega)); omega
  · obtain ⟨y, rfl⟩ : ∃ y, b = -y := ⟨-b, by omega⟩
    have e : a * -y = -(a * y) := Int.mul_neg a y
    rw [e] at hs ⊢
    have hp := prod_pos a y (by omega) (by omega)
    by_cases hm : a * y ≤ 9223372036854775807
    · exact rmul_pn_ok a y w (by omega) (by omega) (by omega) (by omega) ((le_quo _ _ _ (by omega)).2 hm) hp hm
    · have hE : a * y = 9223372036854775808 := by omega
      have he := even_of a y (by omega) (by omega) (by omega) hE
      have h2 := half_mul a y he
      rw [hE]
      refine rmul_pn_least a y w (by omega) (by omega) (by omega) (by omega) ?_ (by simpa using he) ((le_quo _ _ _ (by omega)).2 (by omega)) (by omega) (by omega) (by rw [beq_iff_eq]; omega)
      have := (le_quo a y 9223372036854775807 (by omega)); omega
  · exact rmul_pp_ok a b w (by omega) (by omega) (by omega) (by omega) ((le_quo _ _ _ (by omega)).2 hs.2) (prod_pos _ _ (by omega) (by omega)) hs.2

theorem rmul_no (a b : Int) (w : World) (ha : I64 a) (hb : I64 b) (hs : ¬ I64 (a * b)) :
    Calls Try.prog 19 #[.int .i64 a, .int .i64 b] w fun e w' => e = .returned (.tuple #[.int .i64 0, .bool false]) ∧ w = w' := by
  have h0a : a ≠ 0 := by rintro rfl; simp [I64] at hs
  have h0b : b ≠ 0 := by rintro rfl; simp [I64] at hs
  by_cases hl : a = -9223372036854775808 ∨ b = -9223372036854775808
  · have h1 := rmul_least a b w h0a h0b hl
    have h2 : ¬ (a = 1 ∨ b = 1) := by
      rintro (rfl | rfl)
      · rw [Int.one_mul] at hs; exact hs hb
      · rw [Int.mul_one] at hs; exact hs ha
    rw [if_neg h2] at h1
    exact h1
  unfold I64 at ha hb hs
  by_cases ha0 : a < 0 <;> by_cases hb0 : b < 0
  · obtain ⟨x, rfl⟩ : ∃ x, a = -x := ⟨-a, by omega⟩
    obtain ⟨y, rfl⟩ : ∃ y, b = -y := ⟨-b, by omega⟩
    have e : -x * -y = x * y := Int.neg_mul_neg x y
    rw [e] at hs
    have hp := prod_pos x y (by omega) (by omega)
    have hq := le_quo x y 9223372036854775807 (by omega)
    exact rmul_nn_no x y w (by omega) (by omega) (by omega) (by omega) (by omega)
  · obtain ⟨x, rfl⟩ : ∃ x, a = -x := ⟨-a, by omega⟩
    have e : -x * b = -(x * b) := Int.neg_mul x b
    rw [e] at hs
    have hp := prod_pos x b (by omega) (by omega)
    have hq := le_quo x b 9223372036854775807 (by omega)
    exact rmul_np_no x b w (by omega) (by omega) (by omega) (by omega) (by omega) (chain_no x b (by omega) (by omega) (by omega)) (chain_no b x (by omega) (by omega) (by rw [Int.mul_comm]; omega))
  · obtain ⟨y, rfl⟩ : ∃ y, b = -y := ⟨-b, by omega⟩
    have e : a * -y = -(a * y) := Int.mul_neg a y
    rw [e] at hs
    have hp := prod_pos a y (by omega) (by omega)
    have hq := le_quo a y 9223372036854775807 (by omega)
    exact rmul_pn_no a y w (by omega) (by omega) (by omega) (by omega) (by omega) (chain_no a y (by omega) (by omega) (by omega)) (chain_no y a (by omega) (by omega) (by rw [Int.mul_comm]; omega))
  · have hp := prod_pos a b (by omega) (by omega)
    have hq := le_quo a b 9223372036854775807 (by omega)
    exact rmul_pp_no a b w (by omega) (by omega) (by omega) (by omega) (by omega)

end Go.Proofs.Ytgombejncjcjhaa
