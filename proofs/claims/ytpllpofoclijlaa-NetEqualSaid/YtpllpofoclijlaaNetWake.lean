/-
  The document's own example, that each law of layer 5 asks first: it answers true.
  Conditions: none.
-/
import Derived.Test.YtpllpofoclijlaaNetE
namespace Go.Proofs.Ytpllpofoclijlaa
open Go.RowKit
set_option linter.unusedVariables false

theorem netAt_nil (w : World) : NetAt w (.slice none 0 0) (.slice none 0 0) ⟨[], []⟩ := ⟨RowAt.nil _ _, [], rfl, RowAt.nil _ _, fun x hx => by cases hx⟩

def nameA : ByteArray := { data := #[65] }
def netA : Nt := ⟨[⟨nameA, 0⟩], []⟩

theorem checkN_nil : checkN ⟨[], []⟩ = 0 := by decide
theorem checkN_A : checkN netA = 7 := by decide

set_option maxRecDepth 100000 in
theorem awake_any (w : World) : Calls Try.prog 9 #[] w fun e w' => e = .returned (.bool true) ∧ Below w.heap.size w w' := by
  have Hc1 := Lib.hid (check_any (netAt_nil w) (fun s hs => by cases hs))
  have Hc2 : Hid (∀ W : World, Calls Try.prog 25 #[.agg #[.slice (some ⟨W.heap.size, 0, none⟩) 1 1, .slice none 0 0]] (W.alloc (.cells #[.string nameA, .int .i64 0] 35)) fun e w' => e = .returned (.int .i64 7) ∧ Below (W.heap.size + 1) (W.alloc (.cells #[.string nameA, .int .i64 0] 35)) w') := Lib.hid (by
    intro W
    have hp : PlsAt (W.alloc (.cells #[.string nameA, .int .i64 0] 35)) (.slice (some ⟨W.heap.size, 0, none⟩) 1 1) netA.places := RowAt.of_block (heap_alloc_new W _) 1 rfl (Nat.le_refl _) (by unfold maxLen; omega)
    have hc := check_any (n := netA) (cp := 1) (ct := 0) ⟨hp, [], rfl, RowAt.nil _ _, fun x hx => by cases hx⟩ (fun s hs => by simp [Nt.names, netA] at hs; subst hs; decide)
    rw [checkN_A, show (W.alloc (.cells #[.string nameA, .int .i64 0] 35)).heap.size = W.heap.size + 1 by simp] at hc
    exact hc)
  rw [checkN_nil] at Hc1
  go_enter Try.func9, Try.ntmps9
  go_wp2_with fail
  refine Hc1.out.mono ?_
  rintro e w1 ⟨rfl, hb⟩
  have Hb := Lib.hid hb
  clear hb
  go_wp2_with fail
  refine (Hc2.out w1).mono ?_
  rintro e w2 ⟨rfl, hb⟩
  have Hb2 := Lib.hid hb
  clear hb
  go_wp2
  go_ret
  exact ⟨rfl, (Hb.out.alloc Hb.out.size _).trans (Hb2.out.mono (by have := Hb.out.size; omega))⟩
end Go.Proofs.Ytpllpofoclijlaa
