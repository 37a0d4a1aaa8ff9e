/-
  What Less of tray's keys, and the law's own less, come to for all keys: the order by Time, Prio, ID and N.
  Conditions: none.
-/
import Derived.Test.YtpbbdnicafifpaaRows
import Derived.WalkKit
import Derived.RegionTactic
import Derived.Deep.QuietTactic
import Derived.BigQuiet
import Derived.Lib.Hide
import Derived.Lib.SmallJoins
import Derived.Deep.Draws
namespace Go.Proofs.Ytpbbdnicafifpaa
open Go.RowKit

/-- a key: Time, Prio, ID, N -/
abbrev Key4 := Int × Int × Int × Int

/-- a key's value -/
abbrev kv (k : Key4) : Value := .agg #[.int .i64 k.1, .int .i64 k.2.1, .int .i64 k.2.2.1, .int .i64 k.2.2.2]

/-- the order of keys -/
def klt (a b : Key4) : Bool :=
  if a.1 ≠ b.1 then decide (a.1 < b.1) else if a.2.1 ≠ b.2.1 then decide (a.2.1 < b.2.1) else if a.2.2.1 ≠ b.2.2.1 then decide (a.2.2.1 < b.2.2.1) else decide (a.2.2.2 < b.2.2.2)

theorem below_drewN {B : Nat} {a w : World} (h : Below B a w) (n : Nat) : Below B a (w.drewN n) := ⟨h.os, h.tape, h.output, h.size, h.block⟩

theorem below_two {w : World} (o1 o2 : Obj) : Below w.heap.size w ((w.alloc o1).alloc o2) :=
  ((Below.refl _ _).alloc (Nat.le_refl _) _).alloc (by simp) _

section
variable (a1 a2 a3 a4 b1 b2 b3 b4 : Int) (w : World)

theorem less_any : Calls Try.prog 110 #[.agg #[.int .i64 a1, .int .i64 a2, .int .i64 a3, .int .i64 a4], .agg #[.int .i64 b1, .int .i64 b2, .int .i64 b3, .int .i64 b4]] w
    fun e w' => e = .returned (.bool (klt (a1, a2, a3, a4) (b1, b2, b3, b4))) ∧ Below w.heap.size w w' := by
  by_cases h1 : a1 = b1
  · subst h1
    by_cases h2 : a2 = b2
    · subst h2
      by_cases h3 : a3 = b3
      · subst h3
        have e : klt (a1, a2, a3, a4) (a1, a2, a3, b4) = decide (a4 < b4) := by simp [klt]
        rw [e]
        clear e
        go_enter Try.func110, Try.ntmps110
        go_wp2
        go_ret
        exact ⟨rfl, below_two _ _⟩
      · have e : klt (a1, a2, a3, a4) (a1, a2, b3, b4) = decide (a3 < b3) := by simp [klt, h3]
        rw [e]
        clear e
        go_enter Try.func110, Try.ntmps110
        go_wp2
        go_ret
        exact ⟨rfl, below_two _ _⟩
    · have e : klt (a1, a2, a3, a4) (a1, b2, b3, b4) = decide (a2 < b2) := by simp [klt, h2]
      rw [e]
      clear e
      go_enter Try.func110, Try.ntmps110
      go_wp2
      go_ret
      exact ⟨rfl, below_two _ _⟩
  · have e : klt (a1, a2, a3, a4) (b1, b2, b3, b4) = decide (a1 < b1) := by simp [klt, h1]
    rw [e]
    clear e
    go_enter Try.func110, Try.ntmps110
    go_wp2
    go_ret
    exact ⟨rfl, below_two _ _⟩

end

theorem klt_irrefl (a : Key4) : klt a a = false := by simp [klt]

theorem klt_iff (a b : Key4) : klt a b = true ↔ a.1 < b.1 ∨ (a.1 = b.1 ∧ (a.2.1 < b.2.1 ∨ (a.2.1 = b.2.1 ∧ (a.2.2.1 < b.2.2.1 ∨ (a.2.2.1 = b.2.2.1 ∧ a.2.2.2 < b.2.2.2))))) := by
  unfold klt
  split
  · simp; omega
  · split
    · simp; omega
    · split
      · simp; omega
      · simp; omega

theorem klt_trans {a b c : Key4} (h1 : klt a b = true) (h2 : klt b c = true) : klt a c = true := by
  rw [klt_iff] at *; omega

theorem klt_total {a b : Key4} (h1 : klt a b = false) (h2 : klt b a = false) : a = b := by
  have h1' : ¬ klt a b = true := by simp [h1]
  have h2' : ¬ klt b a = true := by simp [h2]
  rw [klt_iff] at h1' h2'
  obtain ⟨a1, a2, a3, a4⟩ := a
  obtain ⟨b1, b2, b3, b4⟩ := b
  simp only [Prod.mk.injEq] at *
  omega

theorem kle_trans {a b c : Key4} (h1 : klt b a = false) (h2 : klt c b = false) : klt c a = false := by
  have h1' : ¬ klt b a = true := by simp [h1]
  have h2' : ¬ klt c b = true := by simp [h2]
  have : ¬ klt c a = true := by rw [klt_iff] at *; omega
  simpa using this

theorem klt_asymm {a b : Key4} (h : klt a b = true) : klt b a = false := by
  have : ¬ klt b a = true := by rw [klt_iff] at *; omega
  simpa using this

end Go.Proofs.Ytpbbdnicafifpaa
