/-
  What slices.Clone of firings and of ints comes to.
  Conditions: none beyond each theorem's own.
-/
import Derived.Test.YtpbbdnicafifpaaClone
import Derived.Test.YtpbbdnicafifpaaEgO
namespace Go.Proofs.Ytpbbdnicafifpaa
open Go.RowKit
set_option linter.unusedVariables false

theorem fis_one (l : List (Int × Int)) : ∀ u ∈ l.flatMap fiL, u.oneCell' = true := arcs_one l

theorem intsL_one (l : List Int) : ∀ u ∈ l.flatMap intL, u.oneCell' = true := by
  intro u hu
  rw [List.mem_flatMap] at hu
  obtain ⟨a, _, ha⟩ := hu
  simp only [intL, List.mem_cons, List.not_mem_nil, or_false] at ha
  subst ha; rfl

section
variable {w : World} {a : Option Addr} {n c : Nat}
set_option maxRecDepth 100000 in
set_option maxHeartbeats 1000000 in
theorem cloneFis_any {l : List (Int × Int)} (h : FisAt w (.slice a n c) l) (hl : l.length ≤ 1000000) :
    Calls Try.prog 65 #[.slice a n c] w fun e w' => ∃ a' n' c', e = .returned (.slice a' n' c') ∧ w'.ownsRow w.heap.size 55 2 (.slice a' n' c') l.length (l.flatMap fiL) ∧ Below w.heap.size w w' := by
  have q0 : ∀ (w : World) (a : Option Addr) (n c n' c' : Nat), (binOp .eql 49 (.slice a n c) (.slice none n' c')).run Try.prog w = .ok (.bool a.isNone) w := fun w a n c n' c' => Lib.run_eql_slice_nil w _ _ a n c n' c' Try.underlying49
  have hR : RowAt 2 w (.slice a n c) l.length (l.flatMap fiL) := h
  have hone : ∀ u ∈ l.flatMap fiL, u.oneCell' = true := fis_one l
  cases a with
  | none =>
    obtain ⟨rfl, hl0⟩ := hR.nil_len
    have hl1 : l = [] := List.eq_nil_of_length_eq_zero hl0
    subst hl1
    clear h hR hone hl hl0
    go_enter Try.func65, Try.ntmps65
    go_wp2
    go_ret
    exact ⟨_, _, _, rfl, ownNil _ _ _ _, Below.refl _ _⟩
  | some p =>
    obtain ⟨i0, hi0, hz0, hz1, hz2⟩ := info_parts Try.infoFi
    obtain ⟨a', n', c', w', hr, ho, hb⟩ := run_append_new 49 49 55 i0 _ Try.underlying49 hi0 hz0 hz1 hz2 rfl (by omega) hR hone (by omega) (by unfold maxLen; omega)
    have HO := Lib.hid ho
    have HB := Lib.hid hb
    clear h hR hone hl hi0 hz0 hz1 hz2 ho hb
    go_enter Try.func65, Try.ntmps65
    go_wp2_with (at_builtin; refine wpList_append_eq rfl (.tmp 5) (.tmp 6) 49 rfl rfl rfl hr ?_)
    clear hr
    go_wp2
    go_ret
    exact ⟨_, _, _, rfl, HO.out, HB.out⟩

set_option maxRecDepth 100000 in
set_option maxHeartbeats 1000000 in
theorem cloneInts_any {l : List Int} (h : IntsAt w (.slice a n c) l) (hl : l.length ≤ 1000000) :
    Calls Try.prog 66 #[.slice a n c] w fun e w' => ∃ a' n' c', e = .returned (.slice a' n' c') ∧ w'.ownsRow w.heap.size 3 1 (.slice a' n' c') l.length (l.flatMap intL) ∧ Below w.heap.size w w' := by
  have q0 : ∀ (w : World) (a : Option Addr) (n c n' c' : Nat), (binOp .eql 39 (.slice a n c) (.slice none n' c')).run Try.prog w = .ok (.bool a.isNone) w := fun w a n c n' c' => Lib.run_eql_slice_nil w _ _ a n c n' c' Try.underlying39
  have hR : RowAt 1 w (.slice a n c) l.length (l.flatMap intL) := h
  have hone : ∀ u ∈ l.flatMap intL, u.oneCell' = true := intsL_one l
  cases a with
  | none =>
    obtain ⟨rfl, hl0⟩ := hR.nil_len
    have hl1 : l = [] := List.eq_nil_of_length_eq_zero hl0
    subst hl1
    clear h hR hone hl hl0
    go_enter Try.func66, Try.ntmps66
    go_wp2
    go_ret
    exact ⟨_, _, _, rfl, ownNil _ _ _ _, Below.refl _ _⟩
  | some p =>
    obtain ⟨i0, hi0, hz0, hz1, hz2⟩ := info_parts Try.infoI
    obtain ⟨a', n', c', w', hr, ho, hb⟩ := run_append_new 39 39 3 i0 _ Try.underlying39 hi0 hz0 hz1 hz2 rfl (by omega) hR hone (by omega) (by unfold maxLen; omega)
    have HO := Lib.hid ho
    have HB := Lib.hid hb
    clear h hR hone hl hi0 hz0 hz1 hz2 ho hb
    go_enter Try.func66, Try.ntmps66
    go_wp2_with (at_builtin; refine wpList_append_eq rfl (.tmp 5) (.tmp 6) 39 rfl rfl rfl hr ?_)
    clear hr
    go_wp2
    go_ret
    exact ⟨_, _, _, rfl, HO.out, HB.out⟩

end
end Go.Proofs.Ytpbbdnicafifpaa
