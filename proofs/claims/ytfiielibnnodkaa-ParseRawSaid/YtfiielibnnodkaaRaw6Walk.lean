/-
  The walk of the law ParseRaw: for all bytes it returns true.
  Conditions: none beyond the theorem's own.
-/
import Derived.Test.YtfiielibnnodkaaPSames
import Derived.Test.YtfiielibnnodkaaPAwake
import Derived.Test.YtfiielibnnodkaaBytesIn
namespace Go.Proofs.Ytfiielibnnodkaa
open Go.RowKit
set_option linter.unusedVariables false

set_option maxRecDepth 100000 in
set_option maxHeartbeats 1000000 in
theorem raw6_law (hR : RParseSays) {w : World} {A : Option Addr} {n : Nat} {l : List UInt8} (h : BytesAt w A n l) (c : Nat) (hc : n ≤ c) (hm : n ≤ 9223372036854775807) :
    Calls Try.prog 4 #[.slice A n c] w fun e w' => e = .returned (.bool true) ∧ Below w.heap.size w w' := by
  have H := Lib.hid h
  have HR := Lib.hid hR
  clear h hR
  by_cases h4 : n ≤ 400
  · have h4i : ¬ (400 : Int) < (n : Int) := by omega
    have h4b : decide ((400 : Int) < (n : Int)) = false := decide_eq_false h4i
    have h4c : decide (400 < n) = false := decide_eq_false (by omega)
    go_enter Try.func4, Try.ntmps4
    go_wp2_with fail
    refine (awake6 _).mono ?_
    rintro e w1 ⟨rfl, hb⟩
    have hsm := same6_any HR.out (H.out.below hb) hc (by omega)
    have Hb := Lib.hid hb
    clear hb
    go_wp2_with fail
    refine hsm.mono ?_
    rintro e w2 ⟨rfl, hb2⟩
    have Hb2 := Lib.hid (Hb.out.trans (hb2.mono Hb.out.size))
    clear hb2 hsm
    go_wp2
    go_ret
    exact ⟨rfl, Hb2.out⟩
  · have h4i : (400 : Int) < (n : Int) := by omega
    go_enter Try.func4, Try.ntmps4
    go_wp2_with fail
    refine (awake6 _).mono ?_
    rintro e w1 ⟨rfl, hb⟩
    have Hb := Lib.hid hb
    clear hb
    go_wp2_with fail
    refine (awake6 _).mono ?_
    rintro e w2 ⟨rfl, hb2⟩
    have Hb2 := Lib.hid (Hb.out.trans (hb2.mono Hb.out.size))
    clear hb2
    go_wp2
    go_ret
    exact ⟨rfl, Hb2.out⟩
end Go.Proofs.Ytfiielibnnodkaa
