/-
  The walk of the law NetBounds: for all its inputs it returns true.
  Conditions: none.
-/
import Derived.Test.YtoicmoodhblflaaNBoundsA
import Derived.Test.YtoicmoodhblflaaNBoundsC
import Derived.Test.YtoicmoodhblflaaNBoundsD
namespace Go.Proofs.Ytoicmoodhblflaa
open Go.RowKit

theorem nbounds_law (a : Int) (ha : (Lit.int .u8 a).wf = true) (b : Bool) (w : World) : Calls Try.prog 3 #[.int .u8 a, .bool b] w fun e w' => e = .returned (.bool true) ∧ Below w.heap.size w w' := by
  have hb : 0 ≤ a ∧ a ≤ 255 := by simpa [Lit.wf, IntKind.min, IntKind.max, IntKind.signed, IntKind.bits] using ha
  obtain ⟨h, rfl⟩ : ∃ h : Nat, a = (h : Int) := ⟨a.toNat, by omega⟩
  have hh : h < 256 := by omega
  have hc : h % 6 = 0 ∨ h % 6 = 1 ∨ h % 6 = 2 ∨ h % 6 = 3 ∨ h % 6 = 4 ∨ h % 6 = 5 := by omega
  cases b
  · rcases hc with hc | hc | hc | hc | hc | hc
    · exact nb_00 h hh (by omega) w
    · exact nb_10 h hh (by omega) w
    · exact nb_20 h hh (by omega) w
    · exact nb_30 h hh (by omega) w
    · exact nb_40 h hh (by omega) w
    · exact nb_50 h hh (by omega) w
  · rcases hc with hc | hc | hc | hc | hc | hc
    · exact nb_01 h hh (by omega) w
    · exact nb_11 h hh (by omega) w
    · exact nb_21 h hh (by omega) w
    · exact nb_31 h hh (by omega) w
    · exact nb_41 h hh (by omega) w
    · exact nb_51 h hh (by omega) w
end Go.Proofs.Ytoicmoodhblflaa
