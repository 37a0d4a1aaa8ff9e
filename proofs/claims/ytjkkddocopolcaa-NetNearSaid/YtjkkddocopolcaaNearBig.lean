/-
  The law NetNear where a draft or a text is too long to be looked at: it returns true.
  Conditions: none beyond each theorem's own.
-/
import Derived.Test.YtjkkddocopolcaaNearF
namespace Go.Proofs.Ytjkkddocopolcaa
open Go.RowKit
set_option linter.unusedVariables false

set_option maxRecDepth 100000 in
set_option maxHeartbeats 4000000 in
theorem near_big {w : World} {aT aA : Option Addr} {cTok cA nT nA : Nat} (how A n : Int) (s : ByteArray) (hT : nT ≤ 9223372036854775807) (hA : nA ≤ 9223372036854775807) (h : 60 < nT ∨ (nT ≤ 60 ∧ 12 < nA) ∨ (nT ≤ 60 ∧ nA ≤ 12 ∧ 30 < s.size)) :
    Calls Try.prog 4 #[.agg #[.slice aT nT cTok, .slice aA nA cA], .int .u8 how, .int .u8 A, .int .i64 n, .string s] w fun e w' => e = .returned (.bool true) ∧ Below w.heap.size w w' := by
  rcases h with h1 | ⟨h1, h2⟩ | ⟨h1, h2, h3⟩
  · have h1i : (60 : Int) < (nT : Int) := by omega
    go_enter Try.func4, Try.ntmps4
    go_wp2_with fail
    refine (awake_any _).mono ?_
    rintro e w1 ⟨rfl, hb⟩
    have hi := (InBx.start 34 w (.slice aT nT cTok) (.slice aA nA cA)).go hb
    have b0 := hi.c0
    have b1 := hi.c1
    have Hi := Lib.hid hi
    clear hb hi
    go_wp2_with fail
    refine (awake_any _).mono ?_
    rintro e w2 ⟨rfl, hb⟩
    have Hi2 := Lib.hid (Hi.out.go hb)
    clear hb
    go_wp2
    go_ret
    exact ⟨rfl, Hi2.out.old⟩
  · have h1i : ¬ (60 : Int) < (nT : Int) := by omega
    have h1b : decide ((60 : Int) < (nT : Int)) = false := decide_eq_false h1i
    have h1c : decide (60 < nT) = false := decide_eq_false (by omega)
    have h2i : (12 : Int) < (nA : Int) := by omega
    go_enter Try.func4, Try.ntmps4
    go_wp2_with fail
    refine (awake_any _).mono ?_
    rintro e w1 ⟨rfl, hb⟩
    have hi := (InBx.start 34 w (.slice aT nT cTok) (.slice aA nA cA)).go hb
    have b0 := hi.c0
    have b1 := hi.c1
    have Hi := Lib.hid hi
    clear hb hi
    go_wp2_with fail
    refine (awake_any _).mono ?_
    rintro e w2 ⟨rfl, hb⟩
    have Hi2 := Lib.hid (Hi.out.go hb)
    clear hb
    go_wp2
    go_ret
    exact ⟨rfl, Hi2.out.old⟩
  · have h1i : ¬ (60 : Int) < (nT : Int) := by omega
    have h1b : decide ((60 : Int) < (nT : Int)) = false := decide_eq_false h1i
    have h1c : decide (60 < nT) = false := decide_eq_false (by omega)
    have h2i : ¬ (12 : Int) < (nA : Int) := by omega
    have h2b : decide ((12 : Int) < (nA : Int)) = false := decide_eq_false h2i
    have h2c : decide (12 < nA) = false := decide_eq_false (by omega)
    have h3i : (30 : Int) < (s.size : Int) := by omega
    go_enter Try.func4, Try.ntmps4
    go_wp2_with fail
    refine (awake_any _).mono ?_
    rintro e w1 ⟨rfl, hb⟩
    have hi := (InBx.start 34 w (.slice aT nT cTok) (.slice aA nA cA)).go hb
    have b0 := hi.c0
    have b1 := hi.c1
    have Hi := Lib.hid hi
    clear hb hi
    go_wp2_with fail
    refine (awake_any _).mono ?_
    rintro e w2 ⟨rfl, hb⟩
    have Hi2 := Lib.hid (Hi.out.go hb)
    clear hb
    go_wp2
    go_ret
    exact ⟨rfl, Hi2.out.old⟩
end Go.Proofs.Ytjkkddocopolcaa
