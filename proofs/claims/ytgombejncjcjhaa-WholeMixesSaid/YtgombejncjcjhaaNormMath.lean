/-
  Plain facts on vectors divided by the greatest number that divides all their elements.
  Conditions: none beyond each theorem's own.
-/
import Derived.Test.YtgombejncjcjhaaNorm
import Derived.Test.YtgombejncjcjhaaAbove
namespace Go.Proofs.Ytgombejncjcjhaa
open Go.RowKit

theorem gcdfold_dvd (l : List Int) : ∀ a : Nat, ((l.foldl (fun g x => Int.gcd g x) a : Nat) : Int) ∣ (a : Int) ∧ ∀ x ∈ l, ((l.foldl (fun g x => Int.gcd g x) a : Nat) : Int) ∣ x := by
  induction l with
  | nil => intro a; exact ⟨Int.dvd_refl _, fun _ h => by simp at h⟩
  | cons y l ih =>
    intro a
    obtain ⟨h1, h2⟩ := ih (Int.gcd a y)
    refine ⟨Int.dvd_trans h1 (Int.gcd_dvd_left _ _), fun x hx => ?_⟩
    rcases List.mem_cons.1 hx with rfl | hx
    · exact Int.dvd_trans h1 (Int.gcd_dvd_right _ _)
    · exact h2 x hx

theorem gcdl_dvd (zs : List Int) : ∀ x ∈ zs, (gcdl zs : Int) ∣ x := (gcdfold_dvd zs 0).2

theorem gcdfold_max (l : List Int) (d : Int) : ∀ a : Nat, d ∣ (a : Int) → (∀ x ∈ l, d ∣ x) → d ∣ ((l.foldl (fun g x => Int.gcd g x) a : Nat) : Int) := by
  induction l with
  | nil => intro a h _; exact h
  | cons y l ih =>
    intro a h hx
    exact ih _ (Int.dvd_coe_gcd h (hx y (by simp))) (fun x hx' => hx x (by simp [hx']))

theorem gcdl_max (zs : List Int) (d : Int) (h : ∀ x ∈ zs, d ∣ x) : d ∣ (gcdl zs : Int) := gcdfold_max zs d 0 (Int.dvd_zero d) h

theorem norml_len (zs : List Int) : (norml zs).length = zs.length := by unfold norml; split <;> simp

theorem norml_get (zs : List Int) (k : Nat) (hk : k < zs.length) (hg : 0 < gcdl zs) : (norml zs).getD k 0 * gcdl zs = zs.getD k 0 := by
  by_cases h1 : 1 < gcdl zs
  · have e : (norml zs).getD k 0 = (zs.getD k 0).tdiv (gcdl zs) := by simp [norml, h1, hk]
    have hm : zs.getD k 0 ∈ zs := by simp [hk]
    rw [e]
    exact Int.tdiv_mul_cancel (gcdl_dvd zs _ hm)
  · have h2 : gcdl zs = 1 := by omega
    simp [norml, h2]

theorem norml_small (zs : List Int) (h : Small zs) : Small (norml zs) := by
  unfold norml
  split
  · intro x hx
    obtain ⟨y, hy, rfl⟩ := List.mem_map.1 hx
    have h1 := h y hy
    have h2 : (y.tdiv (gcdl zs)).natAbs ≤ y.natAbs := by rw [Int.natAbs_tdiv]; exact Nat.div_le_self _ _
    omega
  · exact h

theorem norml_zero (zs : List Int) (h : gcdl zs = 0) (k : Nat) : (norml zs).getD k 0 = 0 := by
  have e : norml zs = zs := by simp [norml, h]
  rw [e]
  by_cases hk : k < zs.length
  · have hm : zs.getD k 0 ∈ zs := by simp [hk]
    have := gcdl_dvd zs _ hm
    rw [h] at this
    exact Int.zero_dvd.1 (by simpa using this)
  · simp [List.getElem?_eq_none (Nat.le_of_not_lt hk)]

theorem gcdl_norml (zs : List Int) : gcdl (norml zs) ≤ 1 := by
  by_cases h1 : 1 < gcdl zs
  · have e : norml zs = zs.map (fun x => x.tdiv (gcdl zs)) := by simp [norml, h1]
    have hd : (gcdl (norml zs) : Int) * gcdl zs ∣ gcdl zs := by
      refine gcdl_max zs _ fun x hx => ?_
      have h2 := gcdl_dvd (norml zs) (x.tdiv (gcdl zs)) (by rw [e]; exact List.mem_map.2 ⟨x, hx, rfl⟩)
      have h3 : x.tdiv (gcdl zs) * gcdl zs = x := Int.tdiv_mul_cancel (gcdl_dvd zs x hx)
      conv => rhs; rw [← h3]
      exact Int.mul_dvd_mul_right _ h2
    have hle := Int.le_of_dvd (by omega) hd
    rcases Nat.lt_or_ge 1 (gcdl (norml zs)) with h | h
    · have : (2 : Int) * gcdl zs ≤ (gcdl (norml zs) : Int) * gcdl zs := Int.mul_le_mul_of_nonneg_right (by omega) (by omega)
      omega
    · exact h
  · have e : norml zs = zs := by simp [norml, h1]
    rw [e]; omega

theorem norml_norml (zs : List Int) : norml (norml zs) = norml zs := by
  have h := gcdl_norml zs
  generalize norml zs = ys at h ⊢
  unfold norml
  rw [if_neg (by omega)]

theorem gcdl_neg (zs : List Int) : gcdl (zs.map (fun x => -x)) = gcdl zs := by
  unfold gcdl
  rw [List.foldl_map]
  congr 1
  funext g x
  simp

theorem norml_neg (zs : List Int) : norml (zs.map (fun x => -x)) = (norml zs).map (fun x => -x) := by
  unfold norml
  rw [gcdl_neg]
  split
  · simp [Int.neg_tdiv]
  · rfl

theorem Small.neg {zs : List Int} (h : Small zs) : Small (zs.map (fun x => -x)) := by
  intro x hx
  obtain ⟨y, hy, rfl⟩ := List.mem_map.1 hx
  have := h y hy
  omega

theorem small_abv (zs : List Int) (h : ∀ x ∈ zs, I64 x) : Small (zs.map abv) := by
  intro x hx
  obtain ⟨y, hy, rfl⟩ := List.mem_map.1 hx
  exact abv_bd y (h y hy)

end Go.Proofs.Ytgombejncjcjhaa
