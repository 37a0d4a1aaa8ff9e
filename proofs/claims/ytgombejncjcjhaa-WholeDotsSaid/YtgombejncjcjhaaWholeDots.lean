/-
  For all lists of ints a and b the law WholeDots returns true: Dot gives the sum of the products, or says that something on the way is no int, as the document's own Dot does (the law looks at lists of up to 20).
  Conditions: none; a and b are any slices of ints.
-/
import Derived.Test.YtgombejncjcjhaaIn
import Derived.Test.YtgombejncjcjhaaAwake
import Derived.ProofKit
import Derived.OpenShut
import Derived.ShutString
import Derived.ChangeOld
import Derived.Below
namespace Go.Proofs.Ytgombejncjcjhaa.wholeDots
open Go.ChangeShapes Go.WideShapes Go.ChangeAt Go.RowKit
open Go.ChangeMaps (open_string shut_string)
set_option linter.unusedVariables false

theorem own : ownKnob Try.prog.godebug = none := by kernel_rfl
theorem laidOut : laidOutB Try.prog = true := by kernel_rfl

theorem walk (a0 : Option Addr) (len0 cap0 : Nat) (z0 : List Int) (a1 : Option Addr) (len1 cap1 : Nat) (z1 : List Int) (w : World) (w0 : IsRow .i64 w a0 len0 cap0 z0) (w1 : IsRow .i64 w a1 len1 cap1 z1) :
    Calls Try.prog 6 #[.slice a0 len0 cap0, .slice a1 len1 cap1] w fun e w' => e = .returned (.bool true) ∧ Below w.heap.size w w' := by
  obtain ⟨xs, rfl, hx, hxi, hxm, hxc⟩ := w0.reads
  obtain ⟨ys, rfl, hy, hyi, hym, hyc⟩ := w1.reads
  unfold maxLen at hxm hym
  clear w0 w1 hxc hyc z0 z1
  have Hx := Lib.hid hx
  have Hy := Lib.hid hy
  have Hxi := Lib.hid hxi
  have Hyi := Lib.hid hyi
  clear hx hy hxi hyi
  by_cases hl : xs.length ≤ 20 ∧ ys.length ≤ 20
  · obtain ⟨hl1, hl2⟩ := hl
    obtain ⟨r, hr⟩ : ∃ r, r = dots 0 xs ys := ⟨_, rfl⟩
    have c1 : ∀ w, Reads w a0 xs → Reads w a1 ys → Calls Try.prog 23 #[.slice a0 xs.length cap0, .slice a1 ys.length cap1] w fun e w' => e = .returned (dotV r) ∧ ∃ n, w' = w.drewN n := by
      rw [hr]; exact fun w h1 h2 => dot_any a0 a1 cap0 cap1 xs ys w h1 h2 Hxi.out Hyi.out (by omega) (by omega)
    have c2 : ∀ w, Reads w a0 xs → Reads w a1 ys → Calls Try.prog 24 #[.slice a0 xs.length cap0, .slice a1 ys.length cap1] w fun e w' => e = .returned (dotV r) ∧ ∃ n, w' = w.drewN n := by
      rw [hr]; exact fun w h1 h2 => rdot_any a0 a1 cap0 cap1 xs ys w h1 h2 Hxi.out Hyi.out (by omega) (by omega)
    have C1 := Lib.hid c1
    have C2 := Lib.hid c2
    clear hr c1 c2
    cases r
    all_goals
      go_enter Try.func6, Try.ntmps6
      go_wp2_with fail
      refine (awake1 _).mono ?_
      rintro e w1 ⟨rfl, hB⟩
      have hx1 := Lib.hid (Hx.out.below hB)
      have hy1 := Lib.hid (Hy.out.below hB)
      have HB := Lib.hid hB
      clear hB
      go_wp2_with fail
      refine (C1.out _ hx1.out hy1.out).mono ?_
      rintro e w2 ⟨rfl, n1, rfl⟩
      simp only [dotV]
      go_wp2_with fail
      refine (C2.out _ (hx1.out.drewN n1) (hy1.out.drewN n1)).mono ?_
      rintro e w3 ⟨rfl, n2, rfl⟩
      simp only [dotV]
      go_wp2
      go_ret
      exact ⟨rfl, below_drewN HB.out _⟩
  · go_enter Try.func6, Try.ntmps6
    go_wp2_with fail
    refine (awake1 _).mono ?_
    rintro e w1 ⟨rfl, hB⟩
    have HB := Lib.hid hB
    clear hB
    by_cases hl1 : 20 < xs.length
    · go_wp2_with fail
      refine (awake1 _).mono ?_
      rintro e w2 ⟨rfl, hB⟩
      go_wp2
      go_ret
      exact ⟨rfl, HB.out.trans (hB.mono HB.out.size)⟩
    · have hl2 : 20 < ys.length := by omega
      go_wp2_with fail
      refine (awake1 _).mono ?_
      rintro e w2 ⟨rfl, hB⟩
      go_wp2
      go_ret
      exact ⟨rfl, HB.out.trans (hB.mono HB.out.size)⟩

set_option maxRecDepth 100000 in
theorem lifted (os : Os) (started : os.Started) (H : Type) (enc : TypeId × Value → H) :
    ReturnsInHanded {} Try.checked os 6 .any (Rows.wholeDotsSpec.pre6 enc Try.prog Try.f6 Rows.wholeDotsRow.domain false) (Rows.wholeDotsSpec.post enc Try.prog Try.f6 false true false false) := by
  refine returnsInHanded_of_change (C := Try.checked) own started (by kernel_rfl) Try.func6
    (ChangeSpec.witness6 (enc := enc) (C := Try.checked) false ⟨#[], #[.slice none 0 0, .slice none 0 0], []⟩ 8 (by kernel_rfl) (by kernel_rfl) (by kernel_rfl) (by kernel_rfl)) ?_
  intro W base args ds gs before hval0 hW hcnd _
  have hval : ∀ (j : Nat) t v, Try.f6.params[j]? = some t → args[j]? = some v → Value.okWide Try.prog W .any base t v := hval0
  have hW' := hW
  obtain ⟨p, q, hA0, hV, rfl, hfz, hnd⟩ := hW
  have hA : DataW.TrodAll enc Try.prog W 0 (fun _ => true) true Try.f6.params.toList args.toList ds p := hA0
  rw [Try.params6] at hA hval
  obtain ⟨v0, vs0, d0, ds0, p0, q0, hargs, rfl, rfl, h0, r0⟩ := trodAll_cons hA
  obtain ⟨v1, vs1, d1, ds1, p1, q1, rfl, rfl, rfl, h1, r1⟩ := trodAll_cons r0
  obtain ⟨rfl, rfl, rfl⟩ := trodAll_nil r1
  obtain rfl : args = #[v0, v1] := by cases args; simp_all
  obtain ⟨rfl, rfl⟩ := trodVars_none hV
  obtain ⟨a0, len0, cap0, rfl⟩ := okWide_slice Try.underlying30 (hval 0 30 v0 rfl rfl)
  have k0 := h0
  have lt0 : ∀ x ∈ p0, x.block < W.heap.size := by obtain ⟨m, hm⟩ := k0; exact DataW.trod_lt m _ _ _ hm
  obtain ⟨z0, w0⟩ : ∃ zs, IsRow .i64 W a0 len0 cap0 zs := by
    obtain ⟨fuel, hf⟩ := h0
    rcases open_ints Try.underlying30 Try.underlying3 (by kernel_rfl) hf with ⟨hcs, _⟩ | ⟨x, l, c, zs, hcs, _, hl, hm, hz, _, hcell, hwz⟩
    · simp [Value.cells] at hcs
      obtain ⟨rfl, rfl, rfl⟩ := hcs
      exact ⟨[], .inl ⟨rfl, rfl, rfl, rfl⟩⟩
    · simp [Value.cells] at hcs
      obtain ⟨rfl, rfl, rfl⟩ := hcs
      exact ⟨zs, .inr ⟨_, rfl, hl, hm, by simpa using hz, hcell, hwz⟩⟩
  obtain ⟨a1, len1, cap1, rfl⟩ := okWide_slice Try.underlying30 (hval 1 30 v1 rfl rfl)
  have k1 := h1
  have lt1 : ∀ x ∈ p1, x.block < W.heap.size := by obtain ⟨m, hm⟩ := k1; exact DataW.trod_lt m _ _ _ hm
  obtain ⟨z1, w1⟩ : ∃ zs, IsRow .i64 W a1 len1 cap1 zs := by
    obtain ⟨fuel, hf⟩ := h1
    rcases open_ints Try.underlying30 Try.underlying3 (by kernel_rfl) hf with ⟨hcs, _⟩ | ⟨x, l, c, zs, hcs, _, hl, hm, hz, _, hcell, hwz⟩
    · simp [Value.cells] at hcs
      obtain ⟨rfl, rfl, rfl⟩ := hcs
      exact ⟨[], .inl ⟨rfl, rfl, rfl, rfl⟩⟩
    · simp [Value.cells] at hcs
      obtain ⟨rfl, rfl, rfl⟩ := hcs
      exact ⟨zs, .inr ⟨_, rfl, hl, hm, by simpa using hz, hcell, hwz⟩⟩
  clear hA0 hval0
  refine (walk a0 len0 cap0 z0 a1 len1 cap1 z1 W w0 w1).mono fun e W' ⟨he, bel⟩ => ?_
  subst he
  exact ⟨_, rfl, _, _, _, [], _, [], hW', trodAll_mk1 (shut_bool Try.underlying4 _), (trodAll_cons_mk (Below.trod laidOut (by kernel_rfl) (of_decide_eq_true (by kernel_rfl)) k0 bel lt0) (trodAll_cons_mk (Below.trod laidOut (by kernel_rfl) (of_decide_eq_true (by kernel_rfl)) k1 bel lt1) trodAll_mk0)), rfl, bel.frame _, fun h => by cases h⟩

theorem over : Rows.wholeDotsRow.holds Try.pinned (OpenSpec.ofChange Rows.wholeDotsSpec) :=
  OpenClaim.holds_of_wide 6 Try.f6 rfl rfl rfl rfl rfl rfl rfl ⟨rfl, rfl, rfl, rfl, rfl⟩ rfl rfl rfl rfl rfl (by kernel_rfl) Try.func6 (by kernel_rfl)
    (of_decide_eq_true (by kernel_rfl)) (by unfold Func.isWrapper; first | (rw [if_pos (by decide +kernel)]; kernel_rfl) | (rw [if_neg (by decide +kernel)]; exact ⟨rfl, rfl⟩))
    (fun os started H enc _ => lifted os started H enc)

end Go.Proofs.Ytgombejncjcjhaa.wholeDots

namespace Go.Proofs.Ytgombejncjcjhaa
theorem wholeDots_holds : Rows.WholeDotsSaid := wholeDots.over
#print axioms wholeDots_holds
end Go.Proofs.Ytgombejncjcjhaa
