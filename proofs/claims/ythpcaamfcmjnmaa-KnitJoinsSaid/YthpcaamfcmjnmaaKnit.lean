/-
  knit's elements in memory, as a function from each element to the smallest of its group: has, least, Find, Join, Same, New, for every element.
  Conditions: at most 1000000 elements.
-/
import Derived.Test.YthpcaamfcmjnmaaIMap
namespace Go.Proofs.Ythpcaamfcmjnmaa
open Go.RowKit
set_option linter.unusedVariables false

/-- block g is a Knit of m elements whose map is block b; rho leads to the smallest element of each group -/
structure KnitAt (B : Nat) (w : World) (g b m : Nat) (rho : Nat → Nat) : Prop where
  blk : w.heap[g]? = some (.cells #[.int .i64 m, .map (some b)] 59 (0, 0))
  map : ∃ f, IMap w b f m ∧ (∀ c p, f c = some p → p < c ∧ rho p = rho c) ∧ (∀ c, f c = none → rho c = c)
  gB : B ≤ g
  bB : B ≤ b
  ne : g ≠ b
  le : m ≤ 1000000

section
variable {B : Nat} {w w' : World} {g b m c p : Nat} {rho : Nat → Nat}

theorem KnitAt.lt (h : KnitAt B w g b m rho) : g < w.heap.size := (Array.getElem?_eq_some_iff.1 h.blk).1
theorem KnitAt.blt (h : KnitAt B w g b m rho) : b < w.heap.size := let ⟨_, h, _⟩ := h.map; h.lt

theorem KnitAt.kept {S : Nat → Prop} (h : KnitAt B w g b m rho) (hk : Kept S w w') (hg : ¬ S g) (hb : ¬ S b) : KnitAt B w' g b m rho := by
  obtain ⟨f, h1, h2⟩ := h.map
  exact ⟨(hk.block g h.lt hg).trans h.blk, ⟨f, h1.same (hk.block b h.blt hb), h2⟩, h.gB, h.bB, h.ne, h.le⟩

theorem KnitAt.below (h : KnitAt B w g b m rho) (hk : Below w.heap.size w w') : KnitAt B w' g b m rho :=
  h.kept (S := fun _ => False) (Kept.of_below hk) (fun e => e) (fun e => e)

theorem KnitAt.count (h : KnitAt B w g b m rho) : w.cell? ⟨g, 0, none⟩ = some (.int .i64 m) := by
  rw [cell_of_row _ _ 0 _ _ (0, 0) h.blk]; rfl
theorem KnitAt.lower (h : KnitAt B w g b m rho) : w.cell? ⟨g, 1, none⟩ = some (.map (some b)) := by
  rw [cell_of_row _ _ 1 _ _ (0, 0) h.blk]; rfl

/-- rho leads to something that is no greater, and is its own -/
theorem KnitAt.root (h : KnitAt B w g b m rho) : ∀ c, rho c ≤ c ∧ rho (rho c) = rho c := by
  obtain ⟨f, _, h2, h3⟩ := h.map
  intro c
  induction c using Nat.strongRecOn with
  | _ c ih =>
    cases hf : f c with
    | none => have := h3 c hf; rw [this]; exact ⟨Nat.le_refl _, this⟩
    | some p =>
      obtain ⟨q1, q2⟩ := h2 c p hf
      have := ih p q1
      rw [q2] at this
      exact ⟨by omega, this.2⟩

theorem has_in (a : Nat) (hg : w.cell? ⟨g, 0, none⟩ = some (.int .i64 m)) (ha : a < m) :
    Calls Try.prog 26 #[.pointer (some ⟨g, 0, none⟩), .int .i64 a] w fun e w' => e = .returned (.bool true) ∧ w = w' := by
  go_enter Try.func26, Try.ntmps26
  go_wp2
  go_ret
  exact ⟨rfl, rfl⟩

theorem has_out (a : Int) (hg : w.cell? ⟨g, 0, none⟩ = some (.int .i64 m)) (ha : a < 0 ∨ (m : Int) ≤ a) :
    Calls Try.prog 26 #[.pointer (some ⟨g, 0, none⟩), .int .i64 a] w fun e w' => e = .returned (.bool false) ∧ w = w' := by
  by_cases h0 : a < 0
  · go_enter Try.func26, Try.ntmps26
    go_wp2
    go_ret
    exact ⟨rfl, rfl⟩
  · have h1 : decide (a < (m : Int)) = false := by simp; omega
    go_enter Try.func26, Try.ntmps26
    go_wp2
    go_ret
    exact ⟨rfl, rfl⟩

theorem has_nil (a : Int) (w : World) :
    Calls Try.prog 26 #[.pointer none, .int .i64 a] w fun e w' => e = .returned (.bool false) ∧ w = w' := by
  go_enter Try.func26, Try.ntmps26
  go_wp2
  go_ret
  exact ⟨rfl, rfl⟩

set_option maxHeartbeats 1000000 in
theorem least_any (a : Nat) (h : KnitAt B w g b m rho) (ha : a < m) :
    Calls Try.prog 27 #[.pointer (some ⟨g, 0, none⟩), .int .i64 a] w fun e w' => e = .returned (.int .i64 (rho a)) ∧ w = w' := by
  have hl := h.lower
  have hm := h.le
  obtain ⟨f, hi, h2, h3⟩ := h.map
  have Hi := Lib.hid hi
  have H2 := Lib.hid h2
  have H3 := Lib.hid h3
  clear hi h2 h3 h
  go_enter Try.func27, Try.ntmps27
  go_wp2
  go_loopw [1] (fun t wr => ∃ c : Nat, t = .int .i64 c ∧ c < m ∧ rho c = rho a ∧ w = wr) (fun t _ => (intOf t).toNat)
  case atStart => exact ⟨a, rfl, ha, rfl, rfl⟩
  case round =>
    obtain ⟨c, rfl, hc, hr, rfl⟩ := hrel
    cases hf : f c with
    | none =>
      have hmiss := Hi.out.miss (c := c) (by omega) hf
      go_wp2
      go_ret
      exact ⟨by rw [← hr, H3.out c hf]; rfl, rfl⟩
    | some p =>
      have hlook := Hi.out.look_ok hm hf
      obtain ⟨q1, q2⟩ := H2.out c p hf
      go_wp2
      go_roundw
      case rel => exact ⟨p, rfl, by omega, q2.trans hr, trivial⟩
      case measure => simp [intOf]; omega

theorem find_out (a : Int) (h : KnitAt B w g b m rho) (ha : a < 0 ∨ (m : Int) ≤ a) :
    Calls Try.prog 21 #[.pointer (some ⟨g, 0, none⟩), .int .i64 a] w fun e w' => e = .returned (.int .i64 (-1)) ∧ w = w' := by
  have hc := h.count
  clear h
  go_enter Try.func21, Try.ntmps21
  go_wp2_with fail
  refine (has_out a hc ha).mono ?_
  rintro e w1 ⟨rfl, rfl⟩
  go_wp2
  go_ret
  exact ⟨rfl, rfl⟩

theorem find_nil (a : Int) (w : World) :
    Calls Try.prog 21 #[.pointer none, .int .i64 a] w fun e w' => e = .returned (.int .i64 (-1)) ∧ w = w' := by
  go_enter Try.func21, Try.ntmps21
  go_wp2_with fail
  refine (has_nil a w).mono ?_
  rintro e w1 ⟨rfl, rfl⟩
  go_wp2
  go_ret
  exact ⟨rfl, rfl⟩

/-- a shorter way in the map -/
theorem KnitAt.short (h : KnitAt B w g b m rho) {f : Nat → Option Nat} (hi : IMap w' b (upd f c p) m) (h2 : ∀ c p, f c = some p → p < c ∧ rho p = rho c) (h3 : ∀ c, f c = none → rho c = c) (hp : p < c) (hr : rho p = rho c)
    (hg : w.grownBy w' (some b)) : KnitAt B w' g b m rho := by
  refine ⟨(hg.block g h.lt (by simp; exact h.ne)).trans h.blk, ⟨_, hi, ?_, ?_⟩, h.gB, h.bB, h.ne, h.le⟩
  · intro a q ha
    by_cases hac : a = c
    · subst hac; simp only [upd, if_true] at ha; injection ha with ha; subst ha; exact ⟨hp, hr⟩
    · simp only [upd, hac, if_false] at ha; exact h2 a q ha
  · intro a ha
    by_cases hac : a = c
    · subst hac; simp [upd] at ha
    · simp only [upd, hac, if_false] at ha; exact h3 a ha

set_option maxHeartbeats 1000000 in
theorem find_in (a : Nat) (h : KnitAt B w g b m rho) (ha : a < m) :
    Calls Try.prog 21 #[.pointer (some ⟨g, 0, none⟩), .int .i64 a] w fun e w' => e = .returned (.int .i64 (rho a)) ∧ KnitAt B w' g b m rho ∧ Kept (fun k => k = b) w w' := by
  have hm := h.le
  have hc := h.count
  have H := Lib.hid h
  obtain ⟨hra, hrr⟩ := h.root a
  have Hr := Lib.hid h.root
  clear h
  go_enter Try.func21, Try.ntmps21
  go_wp2_with fail
  refine (has_in a hc ha).mono ?_
  rintro e w1 ⟨rfl, rfl⟩
  go_wp2_with fail
  refine (least_any a H.out ha).mono ?_
  rintro e w1 ⟨rfl, rfl⟩
  go_wp2
  go_loopw [1] (fun t wr => ∃ c : Nat, t = .int .i64 c ∧ c < m ∧ rho c = rho a ∧ KnitAt B wr g b m rho ∧ Kept (fun k => k = b) w wr) (fun t _ => (intOf t).toNat)
  case atStart => exact ⟨a, rfl, ha, rfl, H.out, Kept.refl _ _⟩
  case round =>
    obtain ⟨c, rfl, hcm, hr, hk, hkept⟩ := hrel
    have hl := hk.lower
    have Hk := Lib.hid hk
    have Hkept := Lib.hid hkept
    clear hk hkept
    by_cases hca : c = rho a
    · go_wp2
      go_ret
      exact ⟨rfl, Hk.out, Hkept.out⟩
    · obtain ⟨f, hi, h2, h3⟩ := Hk.out.map
      have hlt : rho a < c := by have := (Hr.out c).1; omega
      cases hf : f c with
      | none => have := h3 c hf; omega
      | some p =>
        obtain ⟨q1, q2⟩ := h2 c p hf
        have hlook := hi.look hm hf
        obtain ⟨w2, hst, hi2, hg2⟩ := hi.store (c := c) (p := rho a) hm hcm (by omega)
        have K2 := Lib.hid (Hk.out.short hi2 h2 h3 hlt (by rw [hrr, hr]) hg2)
        have Kp2 := Lib.hid (Hkept.out.grown hg2 (fun k h => by injection h with h; exact h.symm))
        clear hi h2 h3 hi2 hg2
        go_wp2
        go_roundw
        case rel => exact ⟨p, rfl, by omega, q2.trans hr, K2.out, Kp2.out⟩
        case measure => simp [intOf]; omega

end

end Go.Proofs.Ythpcaamfcmjnmaa
