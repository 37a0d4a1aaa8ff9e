/-
  The law NetEqual, for all drafts and either way.
  Conditions: none beyond each theorem's own.
-/
import Derived.Test.YtpllpofoclijlaaEqualWalk
namespace Go.Proofs.Ytpllpofoclijlaa
open Go.RowKit
set_option linter.unusedVariables false

set_option maxRecDepth 100000 in
set_option maxHeartbeats 4000000 in
theorem equal_big {w : World} {aT aA bT bA : Option Addr} {nT cT nA cA mT dT mA dA : Nat} (q1 : nT ≤ 9223372036854775807) (q2 : nA ≤ 9223372036854775807) (q3 : mT ≤ 9223372036854775807) (q4 : mA ≤ 9223372036854775807) (same : Bool)
    (h : 60 < nT ∨ (nT ≤ 60 ∧ 12 < nA) ∨ (nT ≤ 60 ∧ nA ≤ 12 ∧ 60 < mT) ∨ (nT ≤ 60 ∧ nA ≤ 12 ∧ mT ≤ 60 ∧ 12 < mA)) :
    Calls Try.prog 3 #[.agg #[.slice aT nT cT, .slice aA nA cA], .agg #[.slice bT mT dT, .slice bA mA dA], .bool same] w fun e w' => e = .returned (.bool true) ∧ Below w.heap.size w w' := by
  have h1s : (w.alloc (.cells #[.slice aT nT cT, .slice aA nA cA] 25)).heap.size = w.heap.size + 1 := by simp
  have hA0 := ((AllOwn.nil w.heap.size w).add ((Below.refl _ w).alloc (Nat.le_refl _) _) (boxRow.new w.heap.size w 25 #[.slice aT nT cT, .slice aA nA cA] (Nat.le_refl _)) (fun k e => by injection e with e; subst e; exact Nat.le_refl _)).add ((Below.refl _ _).alloc (Nat.le_refl _) _) (boxRow.new w.heap.size _ 25 #[.slice bT mT dT, .slice bA mA dA] (by simp <;> omega)) (fun k e => by injection e with e; subst e; exact Nat.le_refl _)
  rw [h1s] at hA0
  have HA0 := Lib.hid hA0
  have HB0 : Hid (Below w.heap.size w ((w.alloc (.cells #[.slice aT nT cT, .slice aA nA cA] 25)).alloc (.cells #[.slice bT mT dT, .slice bA mA dA] 25))) := Lib.hid (((Below.refl _ w).alloc (Nat.le_refl _) _).alloc (by simp) _)
  clear hA0 h1s
  rcases h with h1 | ⟨h1, h2⟩ | ⟨h1, h2, h3⟩ | ⟨h1, h2, h3, h4⟩
  · have y1i : (60 : Int) < (nT : Int) := by omega
    go_enter Try.func3, Try.ntmps3
    go_wp2_with fail
    refine (awake_any _).mono ?_
    rintro e w1 ⟨rfl, hb⟩
    have hA1 := HA0.out.below hb
    have a0 := boxRow.cell (hA1.own (boxRow w.heap.size 25 [.slice aT nT cT, .slice aA nA cA]) (by simp)) (j := 0) rfl
    have a1 := boxRow.cell (hA1.own (boxRow w.heap.size 25 [.slice aT nT cT, .slice aA nA cA]) (by simp)) (j := 1) rfl
    have b0 := boxRow.cell (hA1.own (boxRow (w.heap.size + 1) 25 [.slice bT mT dT, .slice bA mA dA]) (by simp)) (j := 0) rfl
    have b1 := boxRow.cell (hA1.own (boxRow (w.heap.size + 1) 25 [.slice bT mT dT, .slice bA mA dA]) (by simp)) (j := 1) rfl
    have HB1 := Lib.hid (HB0.out.trans (hb.mono HB0.out.size))
    clear hA1 hb
    go_wp2_with fail
    refine (awake_any _).mono ?_
    rintro e w2 ⟨rfl, hb⟩
    have HB2 := Lib.hid (HB1.out.trans (hb.mono HB1.out.size))
    clear hb
    go_wp2
    go_ret
    exact ⟨rfl, HB2.out⟩
  · have n1i : ¬ (60 : Int) < (nT : Int) := by omega
    have n1b : decide ((60 : Int) < (nT : Int)) = false := decide_eq_false n1i
    have n1c : decide (60 < nT) = false := decide_eq_false (by omega)
    have y2i : (12 : Int) < (nA : Int) := by omega
    go_enter Try.func3, Try.ntmps3
    go_wp2_with fail
    refine (awake_any _).mono ?_
    rintro e w1 ⟨rfl, hb⟩
    have hA1 := HA0.out.below hb
    have a0 := boxRow.cell (hA1.own (boxRow w.heap.size 25 [.slice aT nT cT, .slice aA nA cA]) (by simp)) (j := 0) rfl
    have a1 := boxRow.cell (hA1.own (boxRow w.heap.size 25 [.slice aT nT cT, .slice aA nA cA]) (by simp)) (j := 1) rfl
    have b0 := boxRow.cell (hA1.own (boxRow (w.heap.size + 1) 25 [.slice bT mT dT, .slice bA mA dA]) (by simp)) (j := 0) rfl
    have b1 := boxRow.cell (hA1.own (boxRow (w.heap.size + 1) 25 [.slice bT mT dT, .slice bA mA dA]) (by simp)) (j := 1) rfl
    have HB1 := Lib.hid (HB0.out.trans (hb.mono HB0.out.size))
    clear hA1 hb
    go_wp2_with fail
    refine (awake_any _).mono ?_
    rintro e w2 ⟨rfl, hb⟩
    have HB2 := Lib.hid (HB1.out.trans (hb.mono HB1.out.size))
    clear hb
    go_wp2
    go_ret
    exact ⟨rfl, HB2.out⟩
  · have n1i : ¬ (60 : Int) < (nT : Int) := by omega
    have n1b : decide ((60 : Int) < (nT : Int)) = false := decide_eq_false n1i
    have n1c : decide (60 < nT) = false := decide_eq_false (by omega)
    have n2i : ¬ (12 : Int) < (nA : Int) := by omega
    have n2b : decide ((12 : Int) < (nA : Int)) = false := decide_eq_false n2i
    have n2c : decide (12 < nA) = false := decide_eq_false (by omega)
    have y3i : (60 : Int) < (mT : Int) := by omega
    go_enter Try.func3, Try.ntmps3
    go_wp2_with fail
    refine (awake_any _).mono ?_
    rintro e w1 ⟨rfl, hb⟩
    have hA1 := HA0.out.below hb
    have a0 := boxRow.cell (hA1.own (boxRow w.heap.size 25 [.slice aT nT cT, .slice aA nA cA]) (by simp)) (j := 0) rfl
    have a1 := boxRow.cell (hA1.own (boxRow w.heap.size 25 [.slice aT nT cT, .slice aA nA cA]) (by simp)) (j := 1) rfl
    have b0 := boxRow.cell (hA1.own (boxRow (w.heap.size + 1) 25 [.slice bT mT dT, .slice bA mA dA]) (by simp)) (j := 0) rfl
    have b1 := boxRow.cell (hA1.own (boxRow (w.heap.size + 1) 25 [.slice bT mT dT, .slice bA mA dA]) (by simp)) (j := 1) rfl
    have HB1 := Lib.hid (HB0.out.trans (hb.mono HB0.out.size))
    clear hA1 hb
    go_wp2_with fail
    refine (awake_any _).mono ?_
    rintro e w2 ⟨rfl, hb⟩
    have HB2 := Lib.hid (HB1.out.trans (hb.mono HB1.out.size))
    clear hb
    go_wp2
    go_ret
    exact ⟨rfl, HB2.out⟩
  · have n1i : ¬ (60 : Int) < (nT : Int) := by omega
    have n1b : decide ((60 : Int) < (nT : Int)) = false := decide_eq_false n1i
    have n1c : decide (60 < nT) = false := decide_eq_false (by omega)
    have n2i : ¬ (12 : Int) < (nA : Int) := by omega
    have n2b : decide ((12 : Int) < (nA : Int)) = false := decide_eq_false n2i
    have n2c : decide (12 < nA) = false := decide_eq_false (by omega)
    have n3i : ¬ (60 : Int) < (mT : Int) := by omega
    have n3b : decide ((60 : Int) < (mT : Int)) = false := decide_eq_false n3i
    have n3c : decide (60 < mT) = false := decide_eq_false (by omega)
    have y4i : (12 : Int) < (mA : Int) := by omega
    go_enter Try.func3, Try.ntmps3
    go_wp2_with fail
    refine (awake_any _).mono ?_
    rintro e w1 ⟨rfl, hb⟩
    have hA1 := HA0.out.below hb
    have a0 := boxRow.cell (hA1.own (boxRow w.heap.size 25 [.slice aT nT cT, .slice aA nA cA]) (by simp)) (j := 0) rfl
    have a1 := boxRow.cell (hA1.own (boxRow w.heap.size 25 [.slice aT nT cT, .slice aA nA cA]) (by simp)) (j := 1) rfl
    have b0 := boxRow.cell (hA1.own (boxRow (w.heap.size + 1) 25 [.slice bT mT dT, .slice bA mA dA]) (by simp)) (j := 0) rfl
    have b1 := boxRow.cell (hA1.own (boxRow (w.heap.size + 1) 25 [.slice bT mT dT, .slice bA mA dA]) (by simp)) (j := 1) rfl
    have HB1 := Lib.hid (HB0.out.trans (hb.mono HB0.out.size))
    clear hA1 hb
    go_wp2_with fail
    refine (awake_any _).mono ?_
    rintro e w2 ⟨rfl, hb⟩
    have HB2 := Lib.hid (HB1.out.trans (hb.mono HB1.out.size))
    clear hb
    go_wp2
    go_ret
    exact ⟨rfl, HB2.out⟩

theorem equal_law {w : World} {aT aA bT bA : Option Addr} {cT cA dT dA : Nat} {ts us : List Nat} {acs bcs : List Ac} (ha : DraftAt w (.slice aT ts.length cT) (.slice aA acs.length cA) ts acs) (hb : DraftAt w (.slice bT us.length dT) (.slice bA bcs.length dA) us bcs) (same : Bool) :
    Calls Try.prog 3 #[.agg #[.slice aT ts.length cT, .slice aA acs.length cA], .agg #[.slice bT us.length dT, .slice bA bcs.length dA], .bool same] w fun e w' => e = .returned (.bool true) ∧ Below w.heap.size w w' := by
  have g1 := RowAt.max ha.toks
  have g2 := RowAt.max ha.acts
  have g3 := RowAt.max hb.toks
  have g4 := RowAt.max hb.acts
  by_cases h1 : ts.length ≤ 60
  · by_cases h2 : acs.length ≤ 12
    · by_cases h3 : us.length ≤ 60
      · by_cases h4 : bcs.length ≤ 12
        · cases same
          · exact equal_f ha hb rfl rfl rfl rfl h1 h2 h3 h4
          · exact equal_t ha hb rfl rfl rfl rfl h1 h2 h3 h4
        · exact equal_big g1 g2 g3 g4 same (.inr (.inr (.inr ⟨h1, h2, h3, by omega⟩)))
      · exact equal_big g1 g2 g3 g4 same (.inr (.inr (.inl ⟨h1, h2, by omega⟩)))
    · exact equal_big g1 g2 g3 g4 same (.inr (.inl ⟨h1, by omega⟩))
  · exact equal_big g1 g2 g3 g4 same (.inl (by omega))
end Go.Proofs.Ytpllpofoclijlaa
