/-
  For every byte k the law WholeEdges returns true: at the edges of ints the last sum and product that are ints are given, and the first that are none are refused.
  Conditions: none; k is any byte.
-/
import Derived.Test.YtgombejncjcjhaaEdge
import Derived.Test.YtgombejncjcjhaaAwake
import Derived.ProofKit
import Derived.OpenShut
import Derived.ShutString
import Derived.ChangeOld
import Derived.Below
namespace Go.Proofs.Ytgombejncjcjhaa.wholeEdges
open Go.ChangeShapes Go.WideShapes Go.ChangeAt Go.RowKit
open Go.ChangeMaps (open_string shut_string)
set_option linter.unusedVariables false      -- a walk need not use every 'w<i>' (that an integer argument fits its kind)

theorem own : ownKnob Try.prog.godebug = none := by kernel_rfl

theorem walk (a0 : Int) (w0 : (Lit.int .u8 a0).wf = true) (w : World) :
    Calls Try.prog 10 #[.int .u8 a0] w fun e w' => e = .returned (.bool true) ∧ Below w.heap.size w w' := by
  have hk := bounds_u8 w0
  clear w0
  obtain ⟨hk1, hk2⟩ := hk
  obtain ⟨W, Q, hW, hQ, hW2, hW3, hQ0, hP⟩ := edge (a0 % 61).toNat (by omega)
  obtain ⟨hm1, hm2, hm3, hm4⟩ := edge_muls W Q hW2 hW3 hQ0 hP
  have HP := Lib.hid hP
  clear hP
  have B : ∀ n : Int, -9223372036854775808 ≤ n → n ≤ 9223372036854775807 → I64 n := fun n h1 h2 => ⟨h1, h2⟩
  have HB := Lib.hid B
  clear B
  have hM1 := Lib.hid hm1
  have hM2 := Lib.hid hm2
  have hM3 := Lib.hid hm3
  have hM4 := Lib.hid hm4
  clear hm1 hm2 hm3 hm4
  have hQW : I64 (Q * W) := hM1.out
  have hQ1 : -9223372036854775808 ≤ Q * W := hQW.1
  have hQ2 : Q * W ≤ 9223372036854775807 := hQW.2
  have hQW' := Lib.hid hQW
  clear hQW
  have hQb : Q ≤ 9223372036854775806 := by
    have := HP.out
    have h2 : (Q + 1) * 2 ≤ (Q + 1) * W := Int.mul_le_mul_of_nonneg_left hW2 (by omega)
    omega
  go_enter Try.func10, Try.ntmps10
  go_wp2_with fail
  refine (add_ok _ _ _ (HB.out _ (by omega) (by omega)) (HB.out _ (by omega) (by omega)) (HB.out _ (by omega) (by omega))).mono ?_
  rintro e w' ⟨rfl, rfl⟩
  go_wp2_with fail
  refine (add_no _ _ _ (HB.out _ (by omega) (by omega)) (HB.out _ (by omega) (by omega)) (by unfold I64; omega)).mono ?_
  rintro e w' ⟨rfl, rfl⟩
  go_wp2_with fail
  refine (add_ok _ _ _ (HB.out _ (by omega) (by omega)) (HB.out _ (by omega) (by omega)) (HB.out _ (by omega) (by omega))).mono ?_
  rintro e w' ⟨rfl, rfl⟩
  go_wp2_with fail
  refine (add_no _ _ _ (HB.out _ (by omega) (by omega)) (HB.out _ (by omega) (by omega)) (by unfold I64; omega)).mono ?_
  rintro e w' ⟨rfl, rfl⟩
  go_wp2_with fail
  refine (mul_ok _ _ _ (HB.out _ (by omega) (by omega)) (HB.out _ (by omega) (by omega)) hM1.out).mono ?_
  rintro e w' ⟨rfl, rfl⟩
  go_wp2_with fail
  refine (mul_no _ _ _ (HB.out _ (by omega) (by omega)) (HB.out _ (by omega) (by omega)) hM2.out).mono ?_
  rintro e w' ⟨rfl, rfl⟩
  go_wp2_with fail
  refine (mul_ok _ _ _ (HB.out _ (by omega) (by omega)) (HB.out _ (by omega) (by omega)) hM3.out).mono ?_
  rintro e w' ⟨rfl, rfl⟩
  rw [hM4.out]
  go_wp2_with fail
  refine (awake1 _).mono ?_
  rintro e w' ⟨rfl, hB⟩
  go_wp2
  go_ret
  exact ⟨rfl, hB⟩

set_option maxRecDepth 100000 in
theorem lifted (os : Os) (started : os.Started) (H : Type) (enc : TypeId × Value → H) :
    ReturnsInHanded {} Try.checked os 10 .any (Rows.wholeEdgesSpec.pre6 enc Try.prog Try.f10 Rows.wholeEdgesRow.domain false) (Rows.wholeEdgesSpec.post enc Try.prog Try.f10 false true false false) := by
  refine returnsInHanded_of_change (C := Try.checked) own started (by kernel_rfl) Try.func10
    (ChangeSpec.witness6 (enc := enc) (C := Try.checked) false ⟨#[], #[.int .u8 0], []⟩ 8 (by kernel_rfl) (by kernel_rfl) (by kernel_rfl) (by kernel_rfl)) ?_
  intro W base args ds gs before hval0 hW hcnd _
  have hval : ∀ (j : Nat) t v, Try.f10.params[j]? = some t → args[j]? = some v → Value.okWide Try.prog W .any base t v := hval0
  have hW' := hW
  obtain ⟨p, q, hA0, hV, rfl, hfz, hnd⟩ := hW
  have hA : DataW.TrodAll enc Try.prog W 0 (fun _ => true) true Try.f10.params.toList args.toList ds p := hA0
  rw [Try.params10] at hA hval
  obtain ⟨v0, vs0, d0, ds0, p0, q0, hargs, rfl, rfl, h0, r0⟩ := trodAll_cons hA
  obtain ⟨rfl, rfl, rfl⟩ := trodAll_nil r0
  obtain rfl : args = #[v0] := by cases args; simp_all
  obtain ⟨rfl, rfl⟩ := trodVars_none hV
  obtain ⟨a0, rfl, rfl, rfl, w0⟩ := open_int Try.underlying5 (hval 0 5 v0 rfl rfl) h0
  clear hA0 hval0
  refine (walk a0 w0 W).mono fun e W' ⟨he, bel⟩ => ?_
  subst he
  exact ⟨_, rfl, _, _, _, [], _, [], hW', trodAll_mk1 (shut_bool Try.underlying4 _), (trodAll_cons_mk (shut_int Try.underlying5 w0) trodAll_mk0), rfl, bel.frame _, fun h => by cases h⟩

theorem over : Rows.wholeEdgesRow.holds Try.pinned (OpenSpec.ofChange Rows.wholeEdgesSpec) :=
  OpenClaim.holds_of_wide 10 Try.f10 rfl rfl rfl rfl rfl rfl rfl ⟨rfl, rfl, rfl, rfl, rfl⟩ rfl rfl rfl rfl rfl (by kernel_rfl) Try.func10 (by kernel_rfl)
    (of_decide_eq_true (by kernel_rfl)) (by unfold Func.isWrapper; first | (rw [if_pos (by decide +kernel)]; kernel_rfl) | (rw [if_neg (by decide +kernel)]; exact ⟨rfl, rfl⟩))
    (fun os started H enc _ => lifted os started H enc)

end Go.Proofs.Ytgombejncjcjhaa.wholeEdges

namespace Go.Proofs.Ytgombejncjcjhaa
theorem wholeEdges_holds : Rows.WholeEdgesSaid := wholeEdges.over
#print axioms wholeEdges_holds
end Go.Proofs.Ytgombejncjcjhaa
