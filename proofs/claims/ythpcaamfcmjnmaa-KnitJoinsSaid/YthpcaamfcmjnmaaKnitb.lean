/-
  knit's New, Join and Same in memory, for every element, there or not.
  Conditions: at most 1000000 elements.
-/
import Derived.Test.YthpcaamfcmjnmaaKnit
namespace Go.Proofs.Ythpcaamfcmjnmaa
open Go.RowKit
set_option linter.unusedVariables false

/-- groups x and y made one -/
def joined (rho : Nat → Nat) (x y : Nat) : Nat → Nat := fun c => if rho c = max (rho x) (rho y) then min (rho x) (rho y) else rho c

section
variable {B : Nat} {w w' : World} {g b m : Nat} {rho : Nat → Nat}

theorem joined_same (x y : Nat) (h : rho x = rho y) : joined rho x y = rho := by
  funext c
  unfold joined
  split
  · rename_i h1; rw [h1, h]; simp
  · rfl

/-- a group's smallest element led to a smaller one's -/
theorem KnitAt.merge {c p : Nat} (h : KnitAt B w g b m rho) {f : Nat → Option Nat} (hi : IMap w' b (upd f c p) m) (h2 : ∀ c p, f c = some p → p < c ∧ rho p = rho c) (h3 : ∀ c, f c = none → rho c = c) (hp : p < c) (hrp : rho p = p) (hrc : rho c = c)
    (hg : w.grownBy w' (some b)) : KnitAt B w' g b m (fun a => if rho a = c then p else rho a) := by
  refine ⟨(hg.block g h.lt (by simp; exact h.ne)).trans h.blk, ⟨_, hi, ?_, ?_⟩, h.gB, h.bB, h.ne, h.le⟩
  · intro a q ha
    by_cases hac : a = c
    · subst hac; simp only [upd, if_true] at ha; injection ha with ha; subst ha
      refine ⟨hp, ?_⟩
      rw [hrp, hrc]; simp
    · simp only [upd, hac, if_false] at ha
      obtain ⟨q1, q2⟩ := h2 a q ha
      exact ⟨q1, by rw [q2]⟩
  · intro a ha
    by_cases hac : a = c
    · subst hac; simp [upd] at ha
    · simp only [upd, hac, if_false] at ha
      have := h3 a ha
      rw [this, if_neg hac]

theorem knit_new (n : Nat) (hn : n ≤ 1000000) (w : World) : KnitAt w.heap.size ((w.alloc (.map #[] 0)).alloc (.cells #[.int .i64 n, .map (some w.heap.size)] 59)) (w.heap.size + 1) w.heap.size n (fun c => c) := by
  refine ⟨?_, ⟨fun _ => none, ?_, fun c p h => by simp at h, fun c _ => rfl⟩, by omega, Nat.le_refl _, by omega, hn⟩
  · have := heap_alloc_new (w.alloc (.map #[] 0)) (.cells #[.int .i64 n, .map (some w.heap.size)] 59)
    simpa using this
  · exact (IMap.new w n).same (Below.heap_alloc _ _ _ (by simp))

theorem new_any (n : Nat) (hn : n ≤ 1000000) (w : World) :
    Calls Try.prog 16 #[.int .i64 n] w fun e w' => e = .returned (.pointer (some ⟨w.heap.size + 1, 0, none⟩)) ∧ KnitAt w.heap.size w' (w.heap.size + 1) w.heap.size n (fun c => c) ∧ Below w.heap.size w w' := by
  have hmm := @run_makeMap Try.prog
  go_enter Try.func16, Try.ntmps16
  go_wp2
  go_ret
  exact ⟨rfl, knit_new n hn w, ((Below.refl _ _).alloc (Nat.le_refl _) _).alloc (by simp) _⟩

theorem new_neg (n : Int) (hn : n < 0) (w : World) :
    Calls Try.prog 16 #[.int .i64 n] w fun e w' => e = .returned (.pointer (some ⟨w.heap.size + 1, 0, none⟩)) ∧ KnitAt w.heap.size w' (w.heap.size + 1) w.heap.size 0 (fun c => c) ∧ Below w.heap.size w w' := by
  have hmm := @run_makeMap Try.prog
  have h0 : ¬ (0 : Int) < n := by omega
  have h1 : ¬ (0 : Int) ≤ n := by omega
  go_enter Try.func16, Try.ntmps16
  go_wp2
  go_ret
  exact ⟨rfl, knit_new 0 (by omega) w, ((Below.refl _ _).alloc (Nat.le_refl _) _).alloc (by simp) _⟩

set_option maxHeartbeats 1000000 in
theorem join_in (x y : Nat) (h : KnitAt B w g b m rho) (hx : x < m) (hy : y < m) :
    Calls Try.prog 18 #[.pointer (some ⟨g, 0, none⟩), .int .i64 x, .int .i64 y] w fun e w' => e = .returned (.bool (decide (rho x ≠ rho y))) ∧ KnitAt B w' g b m (joined rho x y) ∧ Kept (fun k => k = b) w w' := by
  have hm := h.le
  obtain ⟨hrx, hrrx⟩ := h.root x
  obtain ⟨hry, hrry⟩ := h.root y
  go_enter Try.func18, Try.ntmps18
  go_wp2_with fail
  refine (find_in x h hx).mono ?_
  rintro e w1 ⟨rfl, h1, k1⟩
  go_wp2_with fail
  refine (find_in y h1 hy).mono ?_
  rintro e w2 ⟨rfl, h2, k2⟩
  have K2 := Lib.hid (k1.trans k2)
  have H2 := Lib.hid h2
  clear h h1 k1 k2 h2
  by_cases hxy : rho x = rho y
  · rw [hxy]
    go_wp2
    go_ret
    exact ⟨by simp [hxy], by rw [joined_same x y hxy]; exact H2.out, K2.out⟩
  · have hl := H2.out.lower
    obtain ⟨f, hi, h2, h3⟩ := H2.out.map
    have hdec : decide (rho x ≠ rho y) = true := by simp [hxy]
    rcases Nat.lt_or_gt_of_ne hxy with hlt | hlt
    · obtain ⟨w3, hst, hi3, hg3⟩ := hi.store (c := rho y) (p := rho x) hm (by omega) (by omega)
      have K3 : Hid (KnitAt B w3 g b m (joined rho x y)) := Lib.hid (by
        have := H2.out.merge hi3 h2 h3 hlt hrrx hrry hg3
        unfold joined
        rw [show max (rho x) (rho y) = rho y by omega, show min (rho x) (rho y) = rho x by omega]
        exact this)
      have Kp3 := Lib.hid (K2.out.grown hg3 (fun k h => by injection h with h; exact h.symm))
      have hlti : (rho x : Int) < (rho y : Int) := by omega
      have hn1 : decide ((rho x : Int) < 0) = false := by simp
      have hn2 : decide ((rho y : Int) < 0) = false := by simp
      have hbe : ((rho x : Int) == (rho y : Int)) = false := by simp; omega
      clear hi h2 h3 hi3 hg3
      go_wp2
      go_ret
      exact ⟨by rw [hdec]; rfl, K3.out, Kp3.out⟩
    · obtain ⟨w3, hst, hi3, hg3⟩ := hi.store (c := rho x) (p := rho y) hm (by omega) (by omega)
      have K3 : Hid (KnitAt B w3 g b m (joined rho x y)) := Lib.hid (by
        have := H2.out.merge hi3 h2 h3 hlt hrry hrrx hg3
        unfold joined
        rw [show max (rho x) (rho y) = rho x by omega, show min (rho x) (rho y) = rho y by omega]
        exact this)
      have Kp3 := Lib.hid (K2.out.grown hg3 (fun k h => by injection h with h; exact h.symm))
      have hlti : ¬ (rho x : Int) < (rho y : Int) := by omega
      have hn1 : decide ((rho x : Int) < 0) = false := by simp
      have hn2 : decide ((rho y : Int) < 0) = false := by simp
      have hbe : ((rho x : Int) == (rho y : Int)) = false := by simp; omega
      clear hi h2 h3 hi3 hg3
      go_wp2
      go_ret
      exact ⟨by rw [hdec]; rfl, K3.out, Kp3.out⟩

theorem same_in (x y : Nat) (h : KnitAt B w g b m rho) (hx : x < m) (hy : y < m) :
    Calls Try.prog 22 #[.pointer (some ⟨g, 0, none⟩), .int .i64 x, .int .i64 y] w fun e w' => e = .returned (.bool (decide (rho x = rho y))) ∧ KnitAt B w' g b m rho ∧ Kept (fun k => k = b) w w' := by
  have hc := h.count
  go_enter Try.func22, Try.ntmps22
  go_wp2_with fail
  refine (has_in x hc hx).mono ?_
  rintro e w1 ⟨rfl, rfl⟩
  go_wp2_with fail
  refine (find_in x h hx).mono ?_
  rintro e w1 ⟨rfl, h1, k1⟩
  go_wp2_with fail
  refine (find_in y h1 hy).mono ?_
  rintro e w2 ⟨rfl, h2, k2⟩
  go_wp2
  go_ret
  refine ⟨?_, h2, k1.trans k2⟩
  show Ending.returned (.bool (decide ((rho x : Int) = (rho y : Int)))) = _
  congr 2
  simp [Int.ofNat_inj]

theorem same_out (x y : Int) (h : KnitAt B w g b m rho) (hx : x < 0 ∨ (m : Int) ≤ x) :
    Calls Try.prog 22 #[.pointer (some ⟨g, 0, none⟩), .int .i64 x, .int .i64 y] w fun e w' => e = .returned (.bool false) ∧ w = w' := by
  have hc := h.count
  go_enter Try.func22, Try.ntmps22
  go_wp2_with fail
  refine (has_out x hc hx).mono ?_
  rintro e w1 ⟨rfl, rfl⟩
  go_wp2
  go_ret
  exact ⟨rfl, rfl⟩

theorem same_nil (x y : Int) (w : World) :
    Calls Try.prog 22 #[.pointer none, .int .i64 x, .int .i64 y] w fun e w' => e = .returned (.bool false) ∧ w = w' := by
  go_enter Try.func22, Try.ntmps22
  go_wp2_with fail
  refine (has_nil x w).mono ?_
  rintro e w1 ⟨rfl, rfl⟩
  go_wp2
  go_ret
  exact ⟨rfl, rfl⟩

theorem join_nil (x y : Int) (w : World) :
    Calls Try.prog 18 #[.pointer none, .int .i64 x, .int .i64 y] w fun e w' => e = .returned (.bool false) ∧ Below w.heap.size w w' := by
  go_enter Try.func18, Try.ntmps18
  go_wp2_with fail
  refine (find_nil x w).mono ?_
  rintro e w1 ⟨rfl, rfl⟩
  go_wp2_with fail
  refine (find_nil y w).mono ?_
  rintro e w1 ⟨rfl, rfl⟩
  go_wp2
  go_ret
  exact ⟨rfl, Below.refl _ _⟩

/-- what Find comes to for any number -/
def findOf (rho : Nat → Nat) (m : Nat) (x : Int) : Int := if 0 ≤ x ∧ x < m then rho x.toNat else -1

theorem find_any (x : Int) (h : KnitAt B w g b m rho) :
    Calls Try.prog 21 #[.pointer (some ⟨g, 0, none⟩), .int .i64 x] w fun e w' => e = .returned (.int .i64 (findOf rho m x)) ∧ KnitAt B w' g b m rho ∧ Kept (fun k => k = b) w w' := by
  unfold findOf
  by_cases hx : 0 ≤ x ∧ x < m
  · rw [if_pos hx]
    obtain ⟨n, rfl⟩ : ∃ n : Nat, x = n := ⟨x.toNat, by omega⟩
    exact find_in n h (by omega)
  · rw [if_neg hx]
    refine (find_out x h (by omega)).mono ?_
    rintro e w1 ⟨rfl, rfl⟩
    exact ⟨rfl, h, Kept.refl _ _⟩

/-- Join where one of the two isn't there -/
theorem join_out (x y : Int) (h : KnitAt B w g b m rho) (hxy : ¬ (0 ≤ x ∧ x < m) ∨ ¬ (0 ≤ y ∧ y < m)) :
    Calls Try.prog 18 #[.pointer (some ⟨g, 0, none⟩), .int .i64 x, .int .i64 y] w fun e w' => e = .returned (.bool false) ∧ KnitAt B w' g b m rho ∧ Kept (fun k => k = b) w w' := by
  go_enter Try.func18, Try.ntmps18
  go_wp2_with fail
  refine (find_any x h).mono ?_
  rintro e w1 ⟨rfl, h1, k1⟩
  go_wp2_with fail
  refine (find_any y h1).mono ?_
  rintro e w2 ⟨rfl, h2, k2⟩
  have K2 := Lib.hid (k1.trans k2)
  have H2 := Lib.hid h2
  clear h h1 k1 k2 h2
  by_cases hx : 0 ≤ x ∧ x < m
  · have hy : findOf rho m y = -1 := by unfold findOf; rw [if_neg (by omega)]
    have hx0 : ¬ findOf rho m x < 0 := by unfold findOf; rw [if_pos hx]; omega
    rw [hy]
    go_wp2
    go_ret
    exact ⟨rfl, H2.out, K2.out⟩
  · have hx0 : findOf rho m x = -1 := by unfold findOf; rw [if_neg hx]
    rw [hx0]
    go_wp2
    go_ret
    exact ⟨rfl, H2.out, K2.out⟩

end

end Go.Proofs.Ythpcaamfcmjnmaa
