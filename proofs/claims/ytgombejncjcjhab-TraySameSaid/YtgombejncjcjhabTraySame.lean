/-
  For every key k and every byte n the law TraySame returns true: a key that is pushed n times is popped n times, and then the heap is empty.
  Conditions: none; the key holds any ints.
-/
import Derived.Test.YtgombejncjcjhabSameWalk
import Derived.ProofKit
import Derived.OpenShut
import Derived.ShutString
import Derived.ChangeOld
import Derived.Below
import Derived.Carry
import Derived.Lib.SmallJoins
namespace Go.Proofs.Ytgombejncjcjhab.traySame
open Go.ChangeShapes Go.WideShapes Go.ChangeAt Go.RowKit Go.Joins
set_option linter.unusedVariables false

theorem own : ownKnob Try.prog.godebug = none := by kernel_rfl
theorem laidOut : laidOutB Try.prog = true := by kernel_rfl

set_option maxRecDepth 100000 in
theorem lifted (os : Os) (started : os.Started) (H : Type) (enc : TypeId × Value → H) :
    ReturnsInHanded {} Try.checked os 3 .any (Rows.traySameSpec.pre6 enc Try.prog Try.f3 Rows.traySameRow.domain false) (Rows.traySameSpec.post enc Try.prog Try.f3 false true false false) := by
  refine returnsInHanded_of_change (C := Try.checked) own started (by kernel_rfl) Try.func3
    (ChangeSpec.witness6 (enc := enc) (C := Try.checked) false ⟨#[], #[.agg #[.int .i64 0, .int .i64 0, .int .i64 0, .int .i64 0], .int .u8 0], []⟩ 8 (by kernel_rfl) (by kernel_rfl) (by kernel_rfl) (by kernel_rfl)) ?_
  intro W base args ds gs before hval0 hW hcnd _
  have hval : ∀ (j : Nat) t v, Try.f3.params[j]? = some t → args[j]? = some v → Value.okWide Try.prog W .any base t v := hval0
  have hW' := hW
  obtain ⟨p, q, hA0, hV, rfl, hfz, hnd⟩ := hW
  have hA : DataW.TrodAll enc Try.prog W 0 (fun _ => true) true Try.f3.params.toList args.toList ds p := hA0
  rw [Try.params3] at hA hval
  obtain ⟨v0, vs0, d0, ds0, p0, q0, hargs, rfl, rfl, h0, r0⟩ := trodAll_cons hA
  obtain ⟨v1, vs1, d1, ds1, p1, q1, rfl, rfl, rfl, h1, r1⟩ := trodAll_cons r0
  obtain ⟨rfl, rfl, rfl⟩ := trodAll_nil r1
  obtain rfl : args = #[v0, v1] := by cases args; simp_all
  obtain ⟨rfl, rfl⟩ := trodVars_none hV
  obtain ⟨x00, x01, x02, x03, y00, y01, y02, y03, m0, rfl, rfl, rfl, t00, t01, t02, t03⟩ := open_agg4 Try.underlying23 (by kernel_rfl) (by kernel_rfl) (hval 0 23 v0 rfl rfl) h0
  obtain ⟨k00, e00, rfl, w00⟩ := DataW.trod_int Try.underlying3 t00
  simp at e00; subst e00
  obtain ⟨k01, e01, rfl, w01⟩ := DataW.trod_int Try.underlying3 t01
  simp at e01; subst e01
  obtain ⟨k02, e02, rfl, w02⟩ := DataW.trod_int Try.underlying3 t02
  simp at e02; subst e02
  obtain ⟨k03, e03, rfl, w03⟩ := DataW.trod_int Try.underlying3 t03
  simp at e03; subst e03
  have s0 : ∀ (W' : World) (sp : Nat → Bool) (hd : Bool), DataW.Trod enc Try.prog W' 0 sp hd 23 (.agg #[.int .i64 k00, .int .i64 k01, .int .i64 k02, .int .i64 k03]) (.agg [.lit (.int .i64 k00), .lit (.int .i64 k01), .lit (.int .i64 k02), .lit (.int .i64 k03)]) [] := fun W' sp hd =>
    shut_agg4 (y0 := (.lit (.int .i64 k00), [])) (y1 := (.lit (.int .i64 k01), [])) (y2 := (.lit (.int .i64 k02), [])) (y3 := (.lit (.int .i64 k03), [])) Try.underlying23 (by kernel_rfl) (by kernel_rfl) ⟨1, by simp [DataW.trod, Try.underlying3, w00]⟩ ⟨1, by simp [DataW.trod, Try.underlying3, w01]⟩ ⟨1, by simp [DataW.trod, Try.underlying3, w02]⟩ ⟨1, by simp [DataW.trod, Try.underlying3, w03]⟩
  obtain ⟨a1, rfl, rfl, rfl, w1⟩ := open_int Try.underlying5 (hval 1 5 v1 rfl rfl) h1
  clear hA0 hval0
  refine (same_lawI k00 k01 k02 k03 a1 (bounds_u8 w1).1 (bounds_u8 w1).2 W).mono fun e W' ⟨he, bel⟩ => ?_
  subst he
  exact ⟨_, rfl, _, _, _, [], _, [], hW', trodAll_mk1 (shut_bool Try.underlying4 _), (trodAll_cons_mk (s0 _ _ _) (trodAll_cons_mk (shut_int Try.underlying5 w1) trodAll_mk0)), rfl, bel.frame _, fun h => by cases h⟩

theorem over : Rows.traySameRow.holds Try.pinned (OpenSpec.ofChange Rows.traySameSpec) :=
  OpenClaim.holds_of_wide 3 Try.f3 rfl rfl rfl rfl rfl rfl rfl ⟨rfl, rfl, rfl, rfl, rfl⟩ rfl rfl rfl rfl rfl (by kernel_rfl) Try.func3 (by kernel_rfl)
    (of_decide_eq_true (by kernel_rfl)) (by unfold Func.isWrapper; first | (rw [if_pos (by decide +kernel)]; kernel_rfl) | (rw [if_neg (by decide +kernel)]; exact ⟨rfl, rfl⟩))
    (fun os started H enc _ => lifted os started H enc)
end Go.Proofs.Ytgombejncjcjhab.traySame

namespace Go.Proofs.Ytgombejncjcjhab
theorem traySame_holds : Rows.TraySameSaid := traySame.over
#print axioms traySame_holds
end Go.Proofs.Ytgombejncjcjhab
