/-
  For all ints a, b and c the law WholeGcds returns true: Gcd gives the greatest number that divides both (of numbers above the least int), as the document's own Gcd does.
  Conditions: none; a, b and c are any ints (the law itself lifts the least int by one).
-/
import Derived.Test.YtgombejncjcjhaaAbove
import Derived.Test.YtgombejncjcjhaaAwake
import Derived.ProofKit
import Derived.OpenShut
import Derived.ShutString
import Derived.ChangeOld
import Derived.Below
namespace Go.Proofs.Ytgombejncjcjhaa.wholeGcds
open Go.ChangeShapes Go.WideShapes Go.ChangeAt Go.RowKit
open Go.ChangeMaps (open_string shut_string)
set_option linter.unusedVariables false      -- a walk need not use every 'w<i>' (that an integer argument fits its kind)

theorem own : ownKnob Try.prog.godebug = none := by kernel_rfl

theorem walk (a0 : Int) (a1 : Int) (a2 : Int) (w0 : (Lit.int .i64 a0).wf = true) (w1 : (Lit.int .i64 a1).wf = true) (w2 : (Lit.int .i64 a2).wf = true) (w : World) :
    Calls Try.prog 5 #[.int .i64 a0, .int .i64 a1, .int .i64 a2] w fun e w' => e = .returned (.bool true) ∧ Below w.heap.size w w' := by
  have ha := abv_bd a0 (bounds_i64 w0)
  have hb := abv_bd a1 (bounds_i64 w1)
  have hc := bounds_i64 w2
  clear w0 w1 w2
  obtain ⟨x, hx⟩ : ∃ x, x = abv a0 := ⟨_, rfl⟩
  obtain ⟨y, hy⟩ : ∃ y, y = abv a1 := ⟨_, rfl⟩
  have c1 : ∀ w, Calls Try.prog 20 #[.int .i64 a0] w fun e w' => e = .returned (.int .i64 x) ∧ w = w' := by rw [hx]; exact above_any a0
  have c2 : ∀ w, Calls Try.prog 20 #[.int .i64 a1] w fun e w' => e = .returned (.int .i64 y) ∧ w = w' := by rw [hy]; exact above_any a1
  rw [← hx] at ha
  rw [← hy] at hb
  clear hx hy
  have C1 := Lib.hid c1
  have C2 := Lib.hid c2
  clear c1 c2
  have HA := Lib.hid ha
  have HB := Lib.hid hb
  obtain ⟨ha1, ha2⟩ := ha
  obtain ⟨hb1, hb2⟩ := hb
  obtain ⟨hc1, hc2⟩ := hc
  by_cases h0 : x = 0 ∧ y = 0
  · obtain ⟨rfl, rfl⟩ := h0
    go_enter Try.func5, Try.ntmps5
    go_wp2_with fail
    refine (C1.out _).mono ?_
    rintro e w' ⟨rfl, rfl⟩
    go_wp2_with fail
    refine (C2.out _).mono ?_
    rintro e w' ⟨rfl, rfl⟩
    go_wp2_with fail
    refine (gcd_any 0 0 _ HA.out HB.out).mono ?_
    rintro e w' ⟨rfl, n1, rfl⟩
    rw [show ((Int.gcd 0 0 : Nat) : Int) = 0 from rfl]
    go_wp2_with fail
    refine (rgcd_any 0 0 _ HA.out HB.out).mono ?_
    rintro e w' ⟨rfl, rfl⟩
    rw [show ((Int.gcd 0 0 : Nat) : Int) = 0 from rfl]
    go_wp2_with fail
    refine (gcd_any 0 0 _ HA.out HB.out).mono ?_
    rintro e w' ⟨rfl, n2, rfl⟩
    rw [show ((Int.gcd 0 0 : Nat) : Int) = 0 from rfl]
    go_wp2_with fail
    refine (awake1 _).mono ?_
    rintro e w' ⟨rfl, hB⟩
    go_wp2
    go_ret
    exact ⟨rfl, (below_drewN (Below.refl w.heap.size w) (n1 + n2)).trans hB⟩
  · obtain ⟨G, A, B, hG, hG1, hG2, hA, hB', hmA, hmB, hA1, hA2, hB1, hB2, hk⟩ := gcd_parts x y HA.out HB.out h0
    have g1 : ∀ w, Calls Try.prog 21 #[.int .i64 x, .int .i64 y] w fun e w' => e = .returned (.int .i64 G) ∧ ∃ n, w' = w.drewN n := by rw [← hG]; exact fun w => gcd_any x y w HA.out HB.out
    have g2 : ∀ w, Calls Try.prog 21 #[.int .i64 y, .int .i64 x] w fun e w' => e = .returned (.int .i64 G) ∧ ∃ n, w' = w.drewN n := by rw [← hG, Int.gcd_comm]; exact fun w => gcd_any y x w HB.out HA.out
    have g3 : ∀ w, Calls Try.prog 22 #[.int .i64 x, .int .i64 y] w fun e w' => e = .returned (.int .i64 G) ∧ w = w' := by rw [← hG]; exact fun w => rgcd_any x y w HA.out HB.out
    have G1 := Lib.hid g1
    have G2 := Lib.hid g2
    have G3 := Lib.hid g3
    have HK := Lib.hid hk
    have HG := Lib.hid hG
    clear g1 g2 g3 hk hG h0
    obtain ⟨k, hk, hk1, hk2⟩ := kth a2
    by_cases hAk : A.tmod k = 0
    · have hBk : (B.tmod k != 0) = true := by
        have := HK.out k hk1
        rw [bne_iff_ne]; intro h; exact this ⟨hAk, h⟩
      go_enter Try.func5, Try.ntmps5
      go_wp2_with fail
      refine (C1.out _).mono ?_
      rintro e w' ⟨rfl, rfl⟩
      go_wp2_with fail
      refine (C2.out _).mono ?_
      rintro e w' ⟨rfl, rfl⟩
      go_wp2_with fail
      refine (G1.out _).mono ?_
      rintro e w' ⟨rfl, n1, rfl⟩
      go_wp2_with fail
      refine (G3.out _).mono ?_
      rintro e w' ⟨rfl, rfl⟩
      go_wp2_with fail
      refine (G2.out _).mono ?_
      rintro e w' ⟨rfl, n2, rfl⟩
      go_wp2_with fail
      refine (awake1 _).mono ?_
      rintro e w' ⟨rfl, hB⟩
      go_wp2
      go_ret
      exact ⟨rfl, (below_drewN (Below.refl w.heap.size w) (n1 + n2)).trans hB⟩
    · have hAk' : (A.tmod k != 0) = true := by rw [bne_iff_ne]; exact hAk
      go_enter Try.func5, Try.ntmps5
      go_wp2_with fail
      refine (C1.out _).mono ?_
      rintro e w' ⟨rfl, rfl⟩
      go_wp2_with fail
      refine (C2.out _).mono ?_
      rintro e w' ⟨rfl, rfl⟩
      go_wp2_with fail
      refine (G1.out _).mono ?_
      rintro e w' ⟨rfl, n1, rfl⟩
      go_wp2_with fail
      refine (G3.out _).mono ?_
      rintro e w' ⟨rfl, rfl⟩
      go_wp2_with fail
      refine (G2.out _).mono ?_
      rintro e w' ⟨rfl, n2, rfl⟩
      go_wp2_with fail
      refine (awake1 _).mono ?_
      rintro e w' ⟨rfl, hB⟩
      go_wp2
      go_ret
      exact ⟨rfl, (below_drewN (Below.refl w.heap.size w) (n1 + n2)).trans hB⟩

set_option maxRecDepth 100000 in
theorem lifted (os : Os) (started : os.Started) (H : Type) (enc : TypeId × Value → H) :
    ReturnsInHanded {} Try.checked os 5 .any (Rows.wholeGcdsSpec.pre6 enc Try.prog Try.f5 Rows.wholeGcdsRow.domain false) (Rows.wholeGcdsSpec.post enc Try.prog Try.f5 false true false false) := by
  refine returnsInHanded_of_change (C := Try.checked) own started (by kernel_rfl) Try.func5
    (ChangeSpec.witness6 (enc := enc) (C := Try.checked) false ⟨#[], #[.int .i64 0, .int .i64 0, .int .i64 0], []⟩ 8 (by kernel_rfl) (by kernel_rfl) (by kernel_rfl) (by kernel_rfl)) ?_
  intro W base args ds gs before hval0 hW hcnd _
  have hval : ∀ (j : Nat) t v, Try.f5.params[j]? = some t → args[j]? = some v → Value.okWide Try.prog W .any base t v := hval0
  have hW' := hW
  obtain ⟨p, q, hA0, hV, rfl, hfz, hnd⟩ := hW
  have hA : DataW.TrodAll enc Try.prog W 0 (fun _ => true) true Try.f5.params.toList args.toList ds p := hA0
  rw [Try.params5] at hA hval
  obtain ⟨v0, vs0, d0, ds0, p0, q0, hargs, rfl, rfl, h0, r0⟩ := trodAll_cons hA
  obtain ⟨v1, vs1, d1, ds1, p1, q1, rfl, rfl, rfl, h1, r1⟩ := trodAll_cons r0
  obtain ⟨v2, vs2, d2, ds2, p2, q2, rfl, rfl, rfl, h2, r2⟩ := trodAll_cons r1
  obtain ⟨rfl, rfl, rfl⟩ := trodAll_nil r2
  obtain rfl : args = #[v0, v1, v2] := by cases args; simp_all
  obtain ⟨rfl, rfl⟩ := trodVars_none hV
  obtain ⟨a0, rfl, rfl, rfl, w0⟩ := open_int Try.underlying3 (hval 0 3 v0 rfl rfl) h0
  obtain ⟨a1, rfl, rfl, rfl, w1⟩ := open_int Try.underlying3 (hval 1 3 v1 rfl rfl) h1
  obtain ⟨a2, rfl, rfl, rfl, w2⟩ := open_int Try.underlying3 (hval 2 3 v2 rfl rfl) h2
  clear hA0 hval0
  refine (walk a0 a1 a2 w0 w1 w2 W).mono fun e W' ⟨he, bel⟩ => ?_
  subst he
  exact ⟨_, rfl, _, _, _, [], _, [], hW', trodAll_mk1 (shut_bool Try.underlying4 _), (trodAll_cons_mk (shut_int Try.underlying3 w0) (trodAll_cons_mk (shut_int Try.underlying3 w1) (trodAll_cons_mk (shut_int Try.underlying3 w2) trodAll_mk0))), rfl, bel.frame _, fun h => by cases h⟩

theorem over : Rows.wholeGcdsRow.holds Try.pinned (OpenSpec.ofChange Rows.wholeGcdsSpec) :=
  OpenClaim.holds_of_wide 5 Try.f5 rfl rfl rfl rfl rfl rfl rfl ⟨rfl, rfl, rfl, rfl, rfl⟩ rfl rfl rfl rfl rfl (by kernel_rfl) Try.func5 (by kernel_rfl)
    (of_decide_eq_true (by kernel_rfl)) (by unfold Func.isWrapper; first | (rw [if_pos (by decide +kernel)]; kernel_rfl) | (rw [if_neg (by decide +kernel)]; exact ⟨rfl, rfl⟩))
    (fun os started H enc _ => lifted os started H enc)

end Go.Proofs.Ytgombejncjcjhaa.wholeGcds

namespace Go.Proofs.Ytgombejncjcjhaa
theorem wholeGcds_holds : Rows.WholeGcdsSaid := wholeGcds.over
#print axioms wholeGcds_holds
end Go.Proofs.Ytgombejncjcjhaa
