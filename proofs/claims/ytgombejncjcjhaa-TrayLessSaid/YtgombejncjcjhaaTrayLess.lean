/-
  For all keys a, b and c and every byte near the law TrayLess returns true: Less puts keys in one order, by Time, Prio, ID and N.
  Conditions: none; the keys hold any ints.
-/
import Derived.Test.YtgombejncjcjhaaLessWalk
import Derived.ProofKit
import Derived.OpenShut
import Derived.ShutString
import Derived.ChangeOld
import Derived.Below
import Derived.Carry
import Derived.Lib.SmallJoins
namespace Go.Proofs.Ytgombejncjcjhaa.trayLess
open Go.ChangeShapes Go.WideShapes Go.ChangeAt Go.RowKit Go.Joins
set_option linter.unusedVariables false

theorem own : ownKnob Try.prog.godebug = none := by kernel_rfl
theorem laidOut : laidOutB Try.prog = true := by kernel_rfl

set_option maxRecDepth 100000 in
theorem lifted (os : Os) (started : os.Started) (H : Type) (enc : TypeId × Value → H) :
    ReturnsInHanded {} Try.checked os 12 .any (Rows.trayLessSpec.pre6 enc Try.prog Try.f12 Rows.trayLessRow.domain false) (Rows.trayLessSpec.post enc Try.prog Try.f12 false true false false) := by
  refine returnsInHanded_of_change (C := Try.checked) own started (by kernel_rfl) Try.func12
    (ChangeSpec.witness6 (enc := enc) (C := Try.checked) false ⟨#[], #[.agg #[.int .i64 0, .int .i64 0, .int .i64 0, .int .i64 0], .agg #[.int .i64 0, .int .i64 0, .int .i64 0, .int .i64 0], .agg #[.int .i64 0, .int .i64 0, .int .i64 0, .int .i64 0], .int .u8 0], []⟩ 8 (by kernel_rfl) (by kernel_rfl) (by kernel_rfl) (by kernel_rfl)) ?_
  intro W base args ds gs before hval0 hW hcnd _
  have hval : ∀ (j : Nat) t v, Try.f12.params[j]? = some t → args[j]? = some v → Value.okWide Try.prog W .any base t v := hval0
  have hW' := hW
  obtain ⟨p, q, hA0, hV, rfl, hfz, hnd⟩ := hW
  have hA : DataW.TrodAll enc Try.prog W 0 (fun _ => true) true Try.f12.params.toList args.toList ds p := hA0
  rw [Try.params12] at hA hval
  obtain ⟨v0, vs0, d0, ds0, p0, q0, hargs, rfl, rfl, h0, r0⟩ := trodAll_cons hA
  obtain ⟨v1, vs1, d1, ds1, p1, q1, rfl, rfl, rfl, h1, r1⟩ := trodAll_cons r0
  obtain ⟨v2, vs2, d2, ds2, p2, q2, rfl, rfl, rfl, h2, r2⟩ := trodAll_cons r1
  obtain ⟨v3, vs3, d3, ds3, p3, q3, rfl, rfl, rfl, h3, r3⟩ := trodAll_cons r2
  obtain ⟨rfl, rfl, rfl⟩ := trodAll_nil r3
  obtain rfl : args = #[v0, v1, v2, v3] := by cases args; simp_all
  obtain ⟨rfl, rfl⟩ := trodVars_none hV
  obtain ⟨x00, x01, x02, x03, y00, y01, y02, y03, m0, rfl, rfl, rfl, t00, t01, t02, t03⟩ := open_agg4 Try.underlying40 (by kernel_rfl) (by kernel_rfl) (hval 0 40 v0 rfl rfl) h0
  obtain ⟨k00, e00, rfl, w00⟩ := DataW.trod_int Try.underlying3 t00
  simp at e00; subst e00
  obtain ⟨k01, e01, rfl, w01⟩ := DataW.trod_int Try.underlying3 t01
  simp at e01; subst e01
  obtain ⟨k02, e02, rfl, w02⟩ := DataW.trod_int Try.underlying3 t02
  simp at e02; subst e02
  obtain ⟨k03, e03, rfl, w03⟩ := DataW.trod_int Try.underlying3 t03
  simp at e03; subst e03
  have s0 : ∀ (W' : World) (sp : Nat → Bool) (hd : Bool), DataW.Trod enc Try.prog W' 0 sp hd 40 (.agg #[.int .i64 k00, .int .i64 k01, .int .i64 k02, .int .i64 k03]) (.agg [.lit (.int .i64 k00), .lit (.int .i64 k01), .lit (.int .i64 k02), .lit (.int .i64 k03)]) [] := fun W' sp hd =>
    shut_agg4 (y0 := (.lit (.int .i64 k00), [])) (y1 := (.lit (.int .i64 k01), [])) (y2 := (.lit (.int .i64 k02), [])) (y3 := (.lit (.int .i64 k03), [])) Try.underlying40 (by kernel_rfl) (by kernel_rfl) ⟨1, by simp [DataW.trod, Try.underlying3, w00]⟩ ⟨1, by simp [DataW.trod, Try.underlying3, w01]⟩ ⟨1, by simp [DataW.trod, Try.underlying3, w02]⟩ ⟨1, by simp [DataW.trod, Try.underlying3, w03]⟩
  obtain ⟨x10, x11, x12, x13, y10, y11, y12, y13, m1, rfl, rfl, rfl, t10, t11, t12, t13⟩ := open_agg4 Try.underlying40 (by kernel_rfl) (by kernel_rfl) (hval 1 40 v1 rfl rfl) h1
  obtain ⟨k10, e10, rfl, w10⟩ := DataW.trod_int Try.underlying3 t10
  simp at e10; subst e10
  obtain ⟨k11, e11, rfl, w11⟩ := DataW.trod_int Try.underlying3 t11
  simp at e11; subst e11
  obtain ⟨k12, e12, rfl, w12⟩ := DataW.trod_int Try.underlying3 t12
  simp at e12; subst e12
  obtain ⟨k13, e13, rfl, w13⟩ := DataW.trod_int Try.underlying3 t13
  simp at e13; subst e13
  have s1 : ∀ (W' : World) (sp : Nat → Bool) (hd : Bool), DataW.Trod enc Try.prog W' 0 sp hd 40 (.agg #[.int .i64 k10, .int .i64 k11, .int .i64 k12, .int .i64 k13]) (.agg [.lit (.int .i64 k10), .lit (.int .i64 k11), .lit (.int .i64 k12), .lit (.int .i64 k13)]) [] := fun W' sp hd =>
    shut_agg4 (y0 := (.lit (.int .i64 k10), [])) (y1 := (.lit (.int .i64 k11), [])) (y2 := (.lit (.int .i64 k12), [])) (y3 := (.lit (.int .i64 k13), [])) Try.underlying40 (by kernel_rfl) (by kernel_rfl) ⟨1, by simp [DataW.trod, Try.underlying3, w10]⟩ ⟨1, by simp [DataW.trod, Try.underlying3, w11]⟩ ⟨1, by simp [DataW.trod, Try.underlying3, w12]⟩ ⟨1, by simp [DataW.trod, Try.underlying3, w13]⟩
  obtain ⟨x20, x21, x22, x23, y20, y21, y22, y23, m2, rfl, rfl, rfl, t20, t21, t22, t23⟩ := open_agg4 Try.underlying40 (by kernel_rfl) (by kernel_rfl) (hval 2 40 v2 rfl rfl) h2
  obtain ⟨k20, e20, rfl, w20⟩ := DataW.trod_int Try.underlying3 t20
  simp at e20; subst e20
  obtain ⟨k21, e21, rfl, w21⟩ := DataW.trod_int Try.underlying3 t21
  simp at e21; subst e21
  obtain ⟨k22, e22, rfl, w22⟩ := DataW.trod_int Try.underlying3 t22
  simp at e22; subst e22
  obtain ⟨k23, e23, rfl, w23⟩ := DataW.trod_int Try.underlying3 t23
  simp at e23; subst e23
  have s2 : ∀ (W' : World) (sp : Nat → Bool) (hd : Bool), DataW.Trod enc Try.prog W' 0 sp hd 40 (.agg #[.int .i64 k20, .int .i64 k21, .int .i64 k22, .int .i64 k23]) (.agg [.lit (.int .i64 k20), .lit (.int .i64 k21), .lit (.int .i64 k22), .lit (.int .i64 k23)]) [] := fun W' sp hd =>
    shut_agg4 (y0 := (.lit (.int .i64 k20), [])) (y1 := (.lit (.int .i64 k21), [])) (y2 := (.lit (.int .i64 k22), [])) (y3 := (.lit (.int .i64 k23), [])) Try.underlying40 (by kernel_rfl) (by kernel_rfl) ⟨1, by simp [DataW.trod, Try.underlying3, w20]⟩ ⟨1, by simp [DataW.trod, Try.underlying3, w21]⟩ ⟨1, by simp [DataW.trod, Try.underlying3, w22]⟩ ⟨1, by simp [DataW.trod, Try.underlying3, w23]⟩
  obtain ⟨a3, rfl, rfl, rfl, w3⟩ := open_int Try.underlying5 (hval 3 5 v3 rfl rfl) h3
  clear hA0 hval0
  refine (less_law k00 k01 k02 k03 k10 k11 k12 k13 k20 k21 k22 k23 a3 W (bounds_u8 w3).1 (bounds_u8 w3).2).mono fun e W' ⟨he, bel⟩ => ?_
  subst he
  exact ⟨_, rfl, _, _, _, [], _, [], hW', trodAll_mk1 (shut_bool Try.underlying4 _), (trodAll_cons_mk (s0 _ _ _) (trodAll_cons_mk (s1 _ _ _) (trodAll_cons_mk (s2 _ _ _) (trodAll_cons_mk (shut_int Try.underlying5 w3) trodAll_mk0)))), rfl, bel.frame _, fun h => by cases h⟩

theorem over : Rows.trayLessRow.holds Try.pinned (OpenSpec.ofChange Rows.trayLessSpec) :=
  OpenClaim.holds_of_wide 12 Try.f12 rfl rfl rfl rfl rfl rfl rfl ⟨rfl, rfl, rfl, rfl, rfl⟩ rfl rfl rfl rfl rfl (by kernel_rfl) Try.func12 (by kernel_rfl)
    (of_decide_eq_true (by kernel_rfl)) (by unfold Func.isWrapper; first | (rw [if_pos (by decide +kernel)]; kernel_rfl) | (rw [if_neg (by decide +kernel)]; exact ⟨rfl, rfl⟩))
    (fun os started H enc _ => lifted os started H enc)
end Go.Proofs.Ytgombejncjcjhaa.trayLess

namespace Go.Proofs.Ytgombejncjcjhaa
theorem trayLess_holds : Rows.TrayLessSaid := trayLess.over
#print axioms trayLess_holds
end Go.Proofs.Ytgombejncjcjhaa
