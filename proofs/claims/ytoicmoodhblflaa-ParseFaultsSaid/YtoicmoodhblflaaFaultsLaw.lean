/-
  The walk of the law ParseFaults: for all its inputs it returns true.
  Conditions: none.
-/
import Derived.Test.YtoicmoodhblflaaFaultsA
import Derived.Test.YtoicmoodhblflaaFaultsB
import Derived.Test.YtoicmoodhblflaaFaultsC
namespace Go.Proofs.Ytoicmoodhblflaa
open Go.RowKit
set_option linter.unusedVariables false

theorem faults_law (a : Int) (ha : (Lit.int .u8 a).wf = true) (w : World) : Calls Try.prog 9 #[.int .u8 a] w fun e w' => e = .returned (.bool true) ∧ Below w.heap.size w w' := by
  have hb : 0 ≤ a ∧ a ≤ 255 := by simpa [Lit.wf, IntKind.min, IntKind.max, IntKind.signed, IntKind.bits] using ha
  obtain ⟨h, rfl⟩ : ∃ h : Nat, a = (h : Int) := ⟨a.toNat, by omega⟩
  have hh : h < 256 := by omega
  have hc : h % 14 = 0 ∨ h % 14 = 1 ∨ h % 14 = 2 ∨ h % 14 = 3 ∨ h % 14 = 4 ∨ h % 14 = 5 ∨ h % 14 = 6 ∨ h % 14 = 7 ∨ h % 14 = 8 ∨ h % 14 = 9 ∨ h % 14 = 10 ∨ h % 14 = 11 ∨ h % 14 = 12 ∨ h % 14 = 13 := by omega
  rcases hc with hc | hc | hc | hc | hc | hc | hc | hc | hc | hc | hc | hc | hc | hc
  · exact faults_0 h hh (by omega) w
  · exact faults_1 h hh (by omega) w
  · exact faults_2 h hh (by omega) w
  · exact faults_3 h hh (by omega) w
  · exact faults_4 h hh (by omega) w
  · exact faults_5 h hh (by omega) w
  · exact faults_6 h hh (by omega) w
  · exact faults_7 h hh (by omega) w
  · exact faults_8 h hh (by omega) w
  · exact faults_9 h hh (by omega) w
  · exact faults_10 h hh (by omega) w
  · exact faults_11 h hh (by omega) w
  · exact faults_12 h hh (by omega) w
  · exact faults_13 h hh (by omega) w
end Go.Proofs.Ytoicmoodhblflaa
