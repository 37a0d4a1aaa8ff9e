/-
  The law MarkMays, for every draft and every list.
  Conditions: none beyond each theorem's own.
-/
import Derived.Test.YtpllpofoclijlaaMaysWalk
namespace Go.Proofs.Ytpllpofoclijlaa
open Go.RowKit
set_option linter.unusedVariables false

set_option maxRecDepth 100000 in
set_option maxHeartbeats 4000000 in
theorem mays_big {w : World} {aT aA al : Option Addr} {cTok cA nT nA nl cl : Nat} (hT : nT ≤ 9223372036854775807) (hA : nA ≤ 9223372036854775807) (hL : nl ≤ 9223372036854775807) (h : 60 < nT ∨ (nT ≤ 60 ∧ 12 < nA) ∨ (nT ≤ 60 ∧ nA ≤ 12 ∧ 20 < nl)) :
    Calls Try.prog 4 #[.agg #[.slice aT nT cTok, .slice aA nA cA], .slice al nl cl] w fun e w' => e = .returned (.bool true) ∧ Below w.heap.size w w' := by
  have fin : ∀ (w1 : World), Below (w.heap.size + 1) (w.alloc (.cells #[.slice aT nT cTok, .slice aA nA cA] 25)) w1 → Below w.heap.size w w1 := fun w1 h => InBx.old ⟨h⟩
  have Fin := Lib.hid fin
  clear fin
  rcases h with h1 | ⟨h1, h2⟩ | ⟨h1, h2, h3⟩
  · have h1i : (60 : Int) < (nT : Int) := by omega
    go_enter Try.func4, Try.ntmps4
    go_wp2_with fail
    refine (awake8_any _).mono ?_
    rintro e w1 ⟨rfl, hb⟩
    have hi := (InBx.start 25 w (.slice aT nT cTok) (.slice aA nA cA)).go hb
    have b0 := hi.c0
    have b1 := hi.c1
    have Hi := Lib.hid hi
    clear hb hi
    go_wp2_with fail
    refine (awake8_any _).mono ?_
    rintro e w2 ⟨rfl, hb⟩
    have Hi2 := Lib.hid (Hi.out.go hb)
    clear hb
    go_wp2
    go_ret
    exact ⟨rfl, Hi2.out.old⟩
  · have h1i : ¬ (60 : Int) < (nT : Int) := by omega
    have h1b : decide ((60 : Int) < (nT : Int)) = false := decide_eq_false h1i
    have h1c : decide (60 < nT) = false := decide_eq_false (by omega)
    have h2i : (12 : Int) < (nA : Int) := by omega
    go_enter Try.func4, Try.ntmps4
    go_wp2_with fail
    refine (awake8_any _).mono ?_
    rintro e w1 ⟨rfl, hb⟩
    have hi := (InBx.start 25 w (.slice aT nT cTok) (.slice aA nA cA)).go hb
    have b0 := hi.c0
    have b1 := hi.c1
    have Hi := Lib.hid hi
    clear hb hi
    go_wp2_with fail
    refine (awake8_any _).mono ?_
    rintro e w2 ⟨rfl, hb⟩
    have Hi2 := Lib.hid (Hi.out.go hb)
    clear hb
    go_wp2
    go_ret
    exact ⟨rfl, Hi2.out.old⟩
  · have h1i : ¬ (60 : Int) < (nT : Int) := by omega
    have h1b : decide ((60 : Int) < (nT : Int)) = false := decide_eq_false h1i
    have h1c : decide (60 < nT) = false := decide_eq_false (by omega)
    have h2i : ¬ (12 : Int) < (nA : Int) := by omega
    have h2b : decide ((12 : Int) < (nA : Int)) = false := decide_eq_false h2i
    have h2c : decide (12 < nA) = false := decide_eq_false (by omega)
    have h3i : (20 : Int) < (nl : Int) := by omega
    go_enter Try.func4, Try.ntmps4
    go_wp2_with fail
    refine (awake8_any _).mono ?_
    rintro e w1 ⟨rfl, hb⟩
    have hi := (InBx.start 25 w (.slice aT nT cTok) (.slice aA nA cA)).go hb
    have b0 := hi.c0
    have b1 := hi.c1
    have Hi := Lib.hid hi
    clear hb hi
    go_wp2_with fail
    refine (awake8_any _).mono ?_
    rintro e w2 ⟨rfl, hb⟩
    have Hi2 := Lib.hid (Hi.out.go hb)
    clear hb
    go_wp2
    go_ret
    exact ⟨rfl, Hi2.out.old⟩

theorem mays_law {w : World} {aT aA al : Option Addr} {cTok cA cl : Nat} {ts : List Nat} {acs : List Ac} {zs : List Int} (h : DraftAt w (.slice aT ts.length cTok) (.slice aA acs.length cA) ts acs) (hl : IntsAt w (.slice al zs.length cl) zs) :
    Calls Try.prog 4 #[.agg #[.slice aT ts.length cTok, .slice aA acs.length cA], .slice al zs.length cl] w fun e w' => e = .returned (.bool true) ∧ Below w.heap.size w w' := by
  by_cases h60 : ts.length ≤ 60
  · by_cases h12 : acs.length ≤ 12
    · by_cases h20 : zs.length ≤ 20
      · exact mays_small h hl rfl h60 h12 h20
      · exact mays_big (RowAt.max h.toks) (RowAt.max h.acts) (RowAt.max hl) (.inr (.inr ⟨h60, h12, by omega⟩))
    · exact mays_big (RowAt.max h.toks) (RowAt.max h.acts) (RowAt.max hl) (.inr (.inl ⟨h60, by omega⟩))
  · exact mays_big (RowAt.max h.toks) (RowAt.max h.acts) (RowAt.max hl) (.inl (by omega))
end Go.Proofs.Ytpllpofoclijlaa
