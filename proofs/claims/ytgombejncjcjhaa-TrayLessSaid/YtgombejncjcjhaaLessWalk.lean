/-
  The law TrayLess, walked: it returns true for all keys.
  Conditions: near is a byte.
-/
import Derived.Test.YtgombejncjcjhaaQuiet
import Derived.Test.YtgombejncjcjhaaLless
namespace Go.Proofs.Ytgombejncjcjhaa
open Go.RowKit
set_option linter.unusedVariables false

theorem below_three {w : World} (o1 o2 o3 : Obj) : Below w.heap.size w (((w.alloc o1).alloc o2).alloc o3) :=
  (below_two _ _).alloc (by simp; omega) _

section
variable (a1 a2 a3 a4 b1 b2 b3 b4 c1 c2 c3 c4 near : Int) (w : World) (hn : 0 ≤ near) (hn2 : near ≤ 255)
include hn hn2

set_option maxHeartbeats 40000000 in
theorem less_plain (hm : (near % 2 == 1) = false) (hm2 : (near % 8 == 7) = false) :
    Calls Try.prog 12 #[.agg #[.int .i64 a1, .int .i64 a2, .int .i64 a3, .int .i64 a4], .agg #[.int .i64 b1, .int .i64 b2, .int .i64 b3, .int .i64 b4], .agg #[.int .i64 c1, .int .i64 c2, .int .i64 c3, .int .i64 c4], .int .u8 near] w fun e w' => e = .returned (.bool true) ∧ Below w.heap.size w w' := by
  by_cases he : a1 = b1
  · subst he
    by_cases he : a2 = b2
    · subst he
      by_cases he : a3 = b3
      · subst he
        by_cases he : a4 = b4
        · subst he
          have haa := klt_irrefl (a1, a2, a3, a4)
          go_enter Try.func12, Try.ntmps12
          go_wp2_with fail
          refine (less_any _ _ _ _ _ _ _ _ _).mono ?_
          rintro e W ⟨rfl, hbw⟩
          have hs0 : w.heap.size + 2 < W.heap.size := by have := hbw.size; simp at this; omega
          have hBW : Below w.heap.size w W := (below_three _ _ _).trans (hbw.mono (by simp; omega))
          have cA0 : W.cell? ⟨w.heap.size, 0, none⟩ = some (.int .i64 a1) := (hbw.cell (p := ⟨w.heap.size, 0, none⟩) (by simp; try omega)).trans (by go_simp)
          have cA1 : W.cell? ⟨w.heap.size, 1, none⟩ = some (.int .i64 a2) := (hbw.cell (p := ⟨w.heap.size, 1, none⟩) (by simp; try omega)).trans (by go_simp)
          have cA2 : W.cell? ⟨w.heap.size, 2, none⟩ = some (.int .i64 a3) := (hbw.cell (p := ⟨w.heap.size, 2, none⟩) (by simp; try omega)).trans (by go_simp)
          have cA3 : W.cell? ⟨w.heap.size, 3, none⟩ = some (.int .i64 a4) := (hbw.cell (p := ⟨w.heap.size, 3, none⟩) (by simp; try omega)).trans (by go_simp)
          have cB0 : W.cell? ⟨w.heap.size + 1, 0, none⟩ = some (.int .i64 a1) := (hbw.cell (p := ⟨w.heap.size + 1, 0, none⟩) (by simp; try omega)).trans (by go_simp)
          have cB1 : W.cell? ⟨w.heap.size + 1, 1, none⟩ = some (.int .i64 a2) := (hbw.cell (p := ⟨w.heap.size + 1, 1, none⟩) (by simp; try omega)).trans (by go_simp)
          have cB2 : W.cell? ⟨w.heap.size + 1, 2, none⟩ = some (.int .i64 a3) := (hbw.cell (p := ⟨w.heap.size + 1, 2, none⟩) (by simp; try omega)).trans (by go_simp)
          have cB3 : W.cell? ⟨w.heap.size + 1, 3, none⟩ = some (.int .i64 a4) := (hbw.cell (p := ⟨w.heap.size + 1, 3, none⟩) (by simp; try omega)).trans (by go_simp)
          have cC0 : W.cell? ⟨w.heap.size + 2, 0, none⟩ = some (.int .i64 c1) := (hbw.cell (p := ⟨w.heap.size + 2, 0, none⟩) (by simp; try omega)).trans (by go_simp)
          have cC1 : W.cell? ⟨w.heap.size + 2, 1, none⟩ = some (.int .i64 c2) := (hbw.cell (p := ⟨w.heap.size + 2, 1, none⟩) (by simp; try omega)).trans (by go_simp)
          have cC2 : W.cell? ⟨w.heap.size + 2, 2, none⟩ = some (.int .i64 c3) := (hbw.cell (p := ⟨w.heap.size + 2, 2, none⟩) (by simp; try omega)).trans (by go_simp)
          have cC3 : W.cell? ⟨w.heap.size + 2, 3, none⟩ = some (.int .i64 c4) := (hbw.cell (p := ⟨w.heap.size + 2, 3, none⟩) (by simp; try omega)).trans (by go_simp)
          have HBW := Lib.hid hBW
          clear hbw hBW
          go_wp2
          have nA0 := fun p : NewBy W => NewBy.cell (o := 0) (by omega) cA0 p
          have nA1 := fun p : NewBy W => NewBy.cell (o := 1) (by omega) cA1 p
          have nA2 := fun p : NewBy W => NewBy.cell (o := 2) (by omega) cA2 p
          have nA3 := fun p : NewBy W => NewBy.cell (o := 3) (by omega) cA3 p
          have nB0 := fun p : NewBy W => NewBy.cell (o := 0) (by omega) cB0 p
          have nB1 := fun p : NewBy W => NewBy.cell (o := 1) (by omega) cB1 p
          have nB2 := fun p : NewBy W => NewBy.cell (o := 2) (by omega) cB2 p
          have nB3 := fun p : NewBy W => NewBy.cell (o := 3) (by omega) cB3 p
          refine wp_region_new (by kernel_rfl) (by kernel_rfl) ?_
          repeat (go_big_quiet_step (first | (go_at_call 28; exact Calls.new_of (less_any _ _ _ _ _ _ _ _ _)) | (go_at_call 30; exact Calls.new_of (lless_any _ _ _ _ _ _ _ _ _)) | (go_at_call 29; exact Calls.new_of (awake2 _))))
          refine wpQuiet_nil ?_
          intro wz hz
          obtain ⟨pz, hz⟩ := hz
          subst hz
          go_wp2
          go_ret
          exact ⟨rfl, HBW.out.trans (pz.below.mono HBW.out.size)⟩

        · have haa := klt_irrefl (a1, a2, a3, a4)
          have hne : (a1, a2, a3, a4) ≠ (a1, a2, a3, b4) := by intro h; simp at h; omega
          cases hab : klt (a1, a2, a3, a4) (a1, a2, a3, b4) with
          | true =>
            cases hbc : klt (a1, a2, a3, b4) (c1, c2, c3, c4) with
            | true =>
              have hac := klt_trans hab hbc
              clear hne
              go_enter Try.func12, Try.ntmps12
              go_wp2_with fail
              refine (less_any _ _ _ _ _ _ _ _ _).mono ?_
              rintro e W ⟨rfl, hbw⟩
              have hs0 : w.heap.size + 2 < W.heap.size := by have := hbw.size; simp at this; omega
              have hBW : Below w.heap.size w W := (below_three _ _ _).trans (hbw.mono (by simp; omega))
              have cA0 : W.cell? ⟨w.heap.size, 0, none⟩ = some (.int .i64 a1) := (hbw.cell (p := ⟨w.heap.size, 0, none⟩) (by simp; try omega)).trans (by go_simp)
              have cA1 : W.cell? ⟨w.heap.size, 1, none⟩ = some (.int .i64 a2) := (hbw.cell (p := ⟨w.heap.size, 1, none⟩) (by simp; try omega)).trans (by go_simp)
              have cA2 : W.cell? ⟨w.heap.size, 2, none⟩ = some (.int .i64 a3) := (hbw.cell (p := ⟨w.heap.size, 2, none⟩) (by simp; try omega)).trans (by go_simp)
              have cA3 : W.cell? ⟨w.heap.size, 3, none⟩ = some (.int .i64 a4) := (hbw.cell (p := ⟨w.heap.size, 3, none⟩) (by simp; try omega)).trans (by go_simp)
              have cB0 : W.cell? ⟨w.heap.size + 1, 0, none⟩ = some (.int .i64 a1) := (hbw.cell (p := ⟨w.heap.size + 1, 0, none⟩) (by simp; try omega)).trans (by go_simp)
              have cB1 : W.cell? ⟨w.heap.size + 1, 1, none⟩ = some (.int .i64 a2) := (hbw.cell (p := ⟨w.heap.size + 1, 1, none⟩) (by simp; try omega)).trans (by go_simp)
              have cB2 : W.cell? ⟨w.heap.size + 1, 2, none⟩ = some (.int .i64 a3) := (hbw.cell (p := ⟨w.heap.size + 1, 2, none⟩) (by simp; try omega)).trans (by go_simp)
              have cB3 : W.cell? ⟨w.heap.size + 1, 3, none⟩ = some (.int .i64 b4) := (hbw.cell (p := ⟨w.heap.size + 1, 3, none⟩) (by simp; try omega)).trans (by go_simp)
              have cC0 : W.cell? ⟨w.heap.size + 2, 0, none⟩ = some (.int .i64 c1) := (hbw.cell (p := ⟨w.heap.size + 2, 0, none⟩) (by simp; try omega)).trans (by go_simp)
              have cC1 : W.cell? ⟨w.heap.size + 2, 1, none⟩ = some (.int .i64 c2) := (hbw.cell (p := ⟨w.heap.size + 2, 1, none⟩) (by simp; try omega)).trans (by go_simp)
              have cC2 : W.cell? ⟨w.heap.size + 2, 2, none⟩ = some (.int .i64 c3) := (hbw.cell (p := ⟨w.heap.size + 2, 2, none⟩) (by simp; try omega)).trans (by go_simp)
              have cC3 : W.cell? ⟨w.heap.size + 2, 3, none⟩ = some (.int .i64 c4) := (hbw.cell (p := ⟨w.heap.size + 2, 3, none⟩) (by simp; try omega)).trans (by go_simp)
              have HBW := Lib.hid hBW
              clear hbw hBW
              go_wp2_with fail
              refine (less_any _ _ _ _ _ _ _ _ _).mono ?_
              rintro e W2 ⟨rfl, hbw⟩
              have hs2 : w.heap.size + 2 < W2.heap.size := by have := hbw.size; omega
              have hBW2 := Lib.hid (HBW.out.trans (hbw.mono HBW.out.size))
              replace cA0 := (hbw.cell (p := ⟨w.heap.size, 0, none⟩) (by simp; try omega)).trans cA0
              replace cA1 := (hbw.cell (p := ⟨w.heap.size, 1, none⟩) (by simp; try omega)).trans cA1
              replace cA2 := (hbw.cell (p := ⟨w.heap.size, 2, none⟩) (by simp; try omega)).trans cA2
              replace cA3 := (hbw.cell (p := ⟨w.heap.size, 3, none⟩) (by simp; try omega)).trans cA3
              replace cB0 := (hbw.cell (p := ⟨w.heap.size + 1, 0, none⟩) (by simp; try omega)).trans cB0
              replace cB1 := (hbw.cell (p := ⟨w.heap.size + 1, 1, none⟩) (by simp; try omega)).trans cB1
              replace cB2 := (hbw.cell (p := ⟨w.heap.size + 1, 2, none⟩) (by simp; try omega)).trans cB2
              replace cB3 := (hbw.cell (p := ⟨w.heap.size + 1, 3, none⟩) (by simp; try omega)).trans cB3
              replace cC0 := (hbw.cell (p := ⟨w.heap.size + 2, 0, none⟩) (by simp; try omega)).trans cC0
              replace cC1 := (hbw.cell (p := ⟨w.heap.size + 2, 1, none⟩) (by simp; try omega)).trans cC1
              replace cC2 := (hbw.cell (p := ⟨w.heap.size + 2, 2, none⟩) (by simp; try omega)).trans cC2
              replace cC3 := (hbw.cell (p := ⟨w.heap.size + 2, 3, none⟩) (by simp; try omega)).trans cC3
              clear hbw hs0
              go_wp2_with fail
              refine (less_any _ _ _ _ _ _ _ _ _).mono ?_
              rintro e W3 ⟨rfl, hbw⟩
              have hs3 : w.heap.size + 2 < W3.heap.size := by have := hbw.size; omega
              have hBW3 := Lib.hid (hBW2.out.trans (hbw.mono hBW2.out.size))
              replace cA0 := (hbw.cell (p := ⟨w.heap.size, 0, none⟩) (by simp; try omega)).trans cA0
              replace cA1 := (hbw.cell (p := ⟨w.heap.size, 1, none⟩) (by simp; try omega)).trans cA1
              replace cA2 := (hbw.cell (p := ⟨w.heap.size, 2, none⟩) (by simp; try omega)).trans cA2
              replace cA3 := (hbw.cell (p := ⟨w.heap.size, 3, none⟩) (by simp; try omega)).trans cA3
              replace cB0 := (hbw.cell (p := ⟨w.heap.size + 1, 0, none⟩) (by simp; try omega)).trans cB0
              replace cB1 := (hbw.cell (p := ⟨w.heap.size + 1, 1, none⟩) (by simp; try omega)).trans cB1
              replace cB2 := (hbw.cell (p := ⟨w.heap.size + 1, 2, none⟩) (by simp; try omega)).trans cB2
              replace cB3 := (hbw.cell (p := ⟨w.heap.size + 1, 3, none⟩) (by simp; try omega)).trans cB3
              replace cC0 := (hbw.cell (p := ⟨w.heap.size + 2, 0, none⟩) (by simp; try omega)).trans cC0
              replace cC1 := (hbw.cell (p := ⟨w.heap.size + 2, 1, none⟩) (by simp; try omega)).trans cC1
              replace cC2 := (hbw.cell (p := ⟨w.heap.size + 2, 2, none⟩) (by simp; try omega)).trans cC2
              replace cC3 := (hbw.cell (p := ⟨w.heap.size + 2, 3, none⟩) (by simp; try omega)).trans cC3
              clear hbw hs2
              go_wp2
              have nA0 := fun p : NewBy W3 => NewBy.cell (o := 0) (by omega) cA0 p
              have nA1 := fun p : NewBy W3 => NewBy.cell (o := 1) (by omega) cA1 p
              have nA2 := fun p : NewBy W3 => NewBy.cell (o := 2) (by omega) cA2 p
              have nA3 := fun p : NewBy W3 => NewBy.cell (o := 3) (by omega) cA3 p
              have nB0 := fun p : NewBy W3 => NewBy.cell (o := 0) (by omega) cB0 p
              have nB1 := fun p : NewBy W3 => NewBy.cell (o := 1) (by omega) cB1 p
              have nB2 := fun p : NewBy W3 => NewBy.cell (o := 2) (by omega) cB2 p
              have nB3 := fun p : NewBy W3 => NewBy.cell (o := 3) (by omega) cB3 p
              refine wp_region_new (by kernel_rfl) (by kernel_rfl) ?_
              repeat (go_big_quiet_step (first | (go_at_call 28; exact Calls.new_of (less_any _ _ _ _ _ _ _ _ _)) | (go_at_call 30; exact Calls.new_of (lless_any _ _ _ _ _ _ _ _ _)) | (go_at_call 29; exact Calls.new_of (awake2 _))))
              refine wpQuiet_nil ?_
              intro wz hz
              obtain ⟨pz, hz⟩ := hz
              subst hz
              go_wp2
              go_ret
              exact ⟨rfl, hBW3.out.trans (pz.below.mono hBW3.out.size)⟩

            | false =>
              clear hne
              go_enter Try.func12, Try.ntmps12
              go_wp2_with fail
              refine (less_any _ _ _ _ _ _ _ _ _).mono ?_
              rintro e W ⟨rfl, hbw⟩
              have hs0 : w.heap.size + 2 < W.heap.size := by have := hbw.size; simp at this; omega
              have hBW : Below w.heap.size w W := (below_three _ _ _).trans (hbw.mono (by simp; omega))
              have cA0 : W.cell? ⟨w.heap.size, 0, none⟩ = some (.int .i64 a1) := (hbw.cell (p := ⟨w.heap.size, 0, none⟩) (by simp; try omega)).trans (by go_simp)
              have cA1 : W.cell? ⟨w.heap.size, 1, none⟩ = some (.int .i64 a2) := (hbw.cell (p := ⟨w.heap.size, 1, none⟩) (by simp; try omega)).trans (by go_simp)
              have cA2 : W.cell? ⟨w.heap.size, 2, none⟩ = some (.int .i64 a3) := (hbw.cell (p := ⟨w.heap.size, 2, none⟩) (by simp; try omega)).trans (by go_simp)
              have cA3 : W.cell? ⟨w.heap.size, 3, none⟩ = some (.int .i64 a4) := (hbw.cell (p := ⟨w.heap.size, 3, none⟩) (by simp; try omega)).trans (by go_simp)
              have cB0 : W.cell? ⟨w.heap.size + 1, 0, none⟩ = some (.int .i64 a1) := (hbw.cell (p := ⟨w.heap.size + 1, 0, none⟩) (by simp; try omega)).trans (by go_simp)
              have cB1 : W.cell? ⟨w.heap.size + 1, 1, none⟩ = some (.int .i64 a2) := (hbw.cell (p := ⟨w.heap.size + 1, 1, none⟩) (by simp; try omega)).trans (by go_simp)
              have cB2 : W.cell? ⟨w.heap.size + 1, 2, none⟩ = some (.int .i64 a3) := (hbw.cell (p := ⟨w.heap.size + 1, 2, none⟩) (by simp; try omega)).trans (by go_simp)
              have cB3 : W.cell? ⟨w.heap.size + 1, 3, none⟩ = some (.int .i64 b4) := (hbw.cell (p := ⟨w.heap.size + 1, 3, none⟩) (by simp; try omega)).trans (by go_simp)
              have cC0 : W.cell? ⟨w.heap.size + 2, 0, none⟩ = some (.int .i64 c1) := (hbw.cell (p := ⟨w.heap.size + 2, 0, none⟩) (by simp; try omega)).trans (by go_simp)
              have cC1 : W.cell? ⟨w.heap.size + 2, 1, none⟩ = some (.int .i64 c2) := (hbw.cell (p := ⟨w.heap.size + 2, 1, none⟩) (by simp; try omega)).trans (by go_simp)
              have cC2 : W.cell? ⟨w.heap.size + 2, 2, none⟩ = some (.int .i64 c3) := (hbw.cell (p := ⟨w.heap.size + 2, 2, none⟩) (by simp; try omega)).trans (by go_simp)
              have cC3 : W.cell? ⟨w.heap.size + 2, 3, none⟩ = some (.int .i64 c4) := (hbw.cell (p := ⟨w.heap.size + 2, 3, none⟩) (by simp; try omega)).trans (by go_simp)
              have HBW := Lib.hid hBW
              clear hbw hBW
              go_wp2_with fail
              refine (less_any _ _ _ _ _ _ _ _ _).mono ?_
              rintro e W2 ⟨rfl, hbw⟩
              have hs2 : w.heap.size + 2 < W2.heap.size := by have := hbw.size; omega
              have hBW2 := Lib.hid (HBW.out.trans (hbw.mono HBW.out.size))
              replace cA0 := (hbw.cell (p := ⟨w.heap.size, 0, none⟩) (by simp; try omega)).trans cA0
              replace cA1 := (hbw.cell (p := ⟨w.heap.size, 1, none⟩) (by simp; try omega)).trans cA1
              replace cA2 := (hbw.cell (p := ⟨w.heap.size, 2, none⟩) (by simp; try omega)).trans cA2
              replace cA3 := (hbw.cell (p := ⟨w.heap.size, 3, none⟩) (by simp; try omega)).trans cA3
              replace cB0 := (hbw.cell (p := ⟨w.heap.size + 1, 0, none⟩) (by simp; try omega)).trans cB0
              replace cB1 := (hbw.cell (p := ⟨w.heap.size + 1, 1, none⟩) (by simp; try omega)).trans cB1
              replace cB2 := (hbw.cell (p := ⟨w.heap.size + 1, 2, none⟩) (by simp; try omega)).trans cB2
              replace cB3 := (hbw.cell (p := ⟨w.heap.size + 1, 3, none⟩) (by simp; try omega)).trans cB3
              replace cC0 := (hbw.cell (p := ⟨w.heap.size + 2, 0, none⟩) (by simp; try omega)).trans cC0
              replace cC1 := (hbw.cell (p := ⟨w.heap.size + 2, 1, none⟩) (by simp; try omega)).trans cC1
              replace cC2 := (hbw.cell (p := ⟨w.heap.size + 2, 2, none⟩) (by simp; try omega)).trans cC2
              replace cC3 := (hbw.cell (p := ⟨w.heap.size + 2, 3, none⟩) (by simp; try omega)).trans cC3
              clear hbw hs0
              go_wp2
              have nA0 := fun p : NewBy W2 => NewBy.cell (o := 0) (by omega) cA0 p
              have nA1 := fun p : NewBy W2 => NewBy.cell (o := 1) (by omega) cA1 p
              have nA2 := fun p : NewBy W2 => NewBy.cell (o := 2) (by omega) cA2 p
              have nA3 := fun p : NewBy W2 => NewBy.cell (o := 3) (by omega) cA3 p
              have nB0 := fun p : NewBy W2 => NewBy.cell (o := 0) (by omega) cB0 p
              have nB1 := fun p : NewBy W2 => NewBy.cell (o := 1) (by omega) cB1 p
              have nB2 := fun p : NewBy W2 => NewBy.cell (o := 2) (by omega) cB2 p
              have nB3 := fun p : NewBy W2 => NewBy.cell (o := 3) (by omega) cB3 p
              refine wp_region_new (by kernel_rfl) (by kernel_rfl) ?_
              repeat (go_big_quiet_step (first | (go_at_call 28; exact Calls.new_of (less_any _ _ _ _ _ _ _ _ _)) | (go_at_call 30; exact Calls.new_of (lless_any _ _ _ _ _ _ _ _ _)) | (go_at_call 29; exact Calls.new_of (awake2 _))))
              refine wpQuiet_nil ?_
              intro wz hz
              obtain ⟨pz, hz⟩ := hz
              subst hz
              go_wp2
              go_ret
              exact ⟨rfl, hBW2.out.trans (pz.below.mono hBW2.out.size)⟩

          | false =>
            have hba : klt (a1, a2, a3, b4) (a1, a2, a3, a4) = true := by
              cases h : klt (a1, a2, a3, b4) (a1, a2, a3, a4) with
              | true => rfl
              | false => exact absurd (klt_total hab h) hne
            clear hne
            go_enter Try.func12, Try.ntmps12
            go_wp2_with fail
            refine (less_any _ _ _ _ _ _ _ _ _).mono ?_
            rintro e W ⟨rfl, hbw⟩
            have hs0 : w.heap.size + 2 < W.heap.size := by have := hbw.size; simp at this; omega
            have hBW : Below w.heap.size w W := (below_three _ _ _).trans (hbw.mono (by simp; omega))
            have cA0 : W.cell? ⟨w.heap.size, 0, none⟩ = some (.int .i64 a1) := (hbw.cell (p := ⟨w.heap.size, 0, none⟩) (by simp; try omega)).trans (by go_simp)
            have cA1 : W.cell? ⟨w.heap.size, 1, none⟩ = some (.int .i64 a2) := (hbw.cell (p := ⟨w.heap.size, 1, none⟩) (by simp; try omega)).trans (by go_simp)
            have cA2 : W.cell? ⟨w.heap.size, 2, none⟩ = some (.int .i64 a3) := (hbw.cell (p := ⟨w.heap.size, 2, none⟩) (by simp; try omega)).trans (by go_simp)
            have cA3 : W.cell? ⟨w.heap.size, 3, none⟩ = some (.int .i64 a4) := (hbw.cell (p := ⟨w.heap.size, 3, none⟩) (by simp; try omega)).trans (by go_simp)
            have cB0 : W.cell? ⟨w.heap.size + 1, 0, none⟩ = some (.int .i64 a1) := (hbw.cell (p := ⟨w.heap.size + 1, 0, none⟩) (by simp; try omega)).trans (by go_simp)
            have cB1 : W.cell? ⟨w.heap.size + 1, 1, none⟩ = some (.int .i64 a2) := (hbw.cell (p := ⟨w.heap.size + 1, 1, none⟩) (by simp; try omega)).trans (by go_simp)
            have cB2 : W.cell? ⟨w.heap.size + 1, 2, none⟩ = some (.int .i64 a3) := (hbw.cell (p := ⟨w.heap.size + 1, 2, none⟩) (by simp; try omega)).trans (by go_simp)
            have cB3 : W.cell? ⟨w.heap.size + 1, 3, none⟩ = some (.int .i64 b4) := (hbw.cell (p := ⟨w.heap.size + 1, 3, none⟩) (by simp; try omega)).trans (by go_simp)
            have cC0 : W.cell? ⟨w.heap.size + 2, 0, none⟩ = some (.int .i64 c1) := (hbw.cell (p := ⟨w.heap.size + 2, 0, none⟩) (by simp; try omega)).trans (by go_simp)
            have cC1 : W.cell? ⟨w.heap.size + 2, 1, none⟩ = some (.int .i64 c2) := (hbw.cell (p := ⟨w.heap.size + 2, 1, none⟩) (by simp; try omega)).trans (by go_simp)
            have cC2 : W.cell? ⟨w.heap.size + 2, 2, none⟩ = some (.int .i64 c3) := (hbw.cell (p := ⟨w.heap.size + 2, 2, none⟩) (by simp; try omega)).trans (by go_simp)
            have cC3 : W.cell? ⟨w.heap.size + 2, 3, none⟩ = some (.int .i64 c4) := (hbw.cell (p := ⟨w.heap.size + 2, 3, none⟩) (by simp; try omega)).trans (by go_simp)
            have HBW := Lib.hid hBW
            clear hbw hBW
            go_wp2
            have nA0 := fun p : NewBy W => NewBy.cell (o := 0) (by omega) cA0 p
            have nA1 := fun p : NewBy W => NewBy.cell (o := 1) (by omega) cA1 p
            have nA2 := fun p : NewBy W => NewBy.cell (o := 2) (by omega) cA2 p
            have nA3 := fun p : NewBy W => NewBy.cell (o := 3) (by omega) cA3 p
            have nB0 := fun p : NewBy W => NewBy.cell (o := 0) (by omega) cB0 p
            have nB1 := fun p : NewBy W => NewBy.cell (o := 1) (by omega) cB1 p
            have nB2 := fun p : NewBy W => NewBy.cell (o := 2) (by omega) cB2 p
            have nB3 := fun p : NewBy W => NewBy.cell (o := 3) (by omega) cB3 p
            refine wp_region_new (by kernel_rfl) (by kernel_rfl) ?_
            repeat (go_big_quiet_step (first | (go_at_call 28; exact Calls.new_of (less_any _ _ _ _ _ _ _ _ _)) | (go_at_call 30; exact Calls.new_of (lless_any _ _ _ _ _ _ _ _ _)) | (go_at_call 29; exact Calls.new_of (awake2 _))))
            refine wpQuiet_nil ?_
            intro wz hz
            obtain ⟨pz, hz⟩ := hz
            subst hz
            go_wp2
            go_ret
            exact ⟨rfl, HBW.out.trans (pz.below.mono HBW.out.size)⟩

      · have haa := klt_irrefl (a1, a2, a3, a4)
        have hne : (a1, a2, a3, a4) ≠ (a1, a2, b3, b4) := by intro h; simp at h; omega
        cases hab : klt (a1, a2, a3, a4) (a1, a2, b3, b4) with
        | true =>
          cases hbc : klt (a1, a2, b3, b4) (c1, c2, c3, c4) with
          | true =>
            have hac := klt_trans hab hbc
            clear hne
            go_enter Try.func12, Try.ntmps12
            go_wp2_with fail
            refine (less_any _ _ _ _ _ _ _ _ _).mono ?_
            rintro e W ⟨rfl, hbw⟩
            have hs0 : w.heap.size + 2 < W.heap.size := by have := hbw.size; simp at this; omega
            have hBW : Below w.heap.size w W := (below_three _ _ _).trans (hbw.mono (by simp; omega))
            have cA0 : W.cell? ⟨w.heap.size, 0, none⟩ = some (.int .i64 a1) := (hbw.cell (p := ⟨w.heap.size, 0, none⟩) (by simp; try omega)).trans (by go_simp)
            have cA1 : W.cell? ⟨w.heap.size, 1, none⟩ = some (.int .i64 a2) := (hbw.cell (p := ⟨w.heap.size, 1, none⟩) (by simp; try omega)).trans (by go_simp)
            have cA2 : W.cell? ⟨w.heap.size, 2, none⟩ = some (.int .i64 a3) := (hbw.cell (p := ⟨w.heap.size, 2, none⟩) (by simp; try omega)).trans (by go_simp)
            have cA3 : W.cell? ⟨w.heap.size, 3, none⟩ = some (.int .i64 a4) := (hbw.cell (p := ⟨w.heap.size, 3, none⟩) (by simp; try omega)).trans (by go_simp)
            have cB0 : W.cell? ⟨w.heap.size + 1, 0, none⟩ = some (.int .i64 a1) := (hbw.cell (p := ⟨w.heap.size + 1, 0, none⟩) (by simp; try omega)).trans (by go_simp)
            have cB1 : W.cell? ⟨w.heap.size + 1, 1, none⟩ = some (.int .i64 a2) := (hbw.cell (p := ⟨w.heap.size + 1, 1, none⟩) (by simp; try omega)).trans (by go_simp)
            have cB2 : W.cell? ⟨w.heap.size + 1, 2, none⟩ = some (.int .i64 b3) := (hbw.cell (p := ⟨w.heap.size + 1, 2, none⟩) (by simp; try omega)).trans (by go_simp)
            have cB3 : W.cell? ⟨w.heap.size + 1, 3, none⟩ = some (.int .i64 b4) := (hbw.cell (p := ⟨w.heap.size + 1, 3, none⟩) (by simp; try omega)).trans (by go_simp)
            have cC0 : W.cell? ⟨w.heap.size + 2, 0, none⟩ = some (.int .i64 c1) := (hbw.cell (p := ⟨w.heap.size + 2, 0, none⟩) (by simp; try omega)).trans (by go_simp)
            have cC1 : W.cell? ⟨w.heap.size + 2, 1, none⟩ = some (.int .i64 c2) := (hbw.cell (p := ⟨w.heap.size + 2, 1, none⟩) (by simp; try omega)).trans (by go_simp)
            have cC2 : W.cell? ⟨w.heap.size + 2, 2, none⟩ = some (.int .i64 c3) := (hbw.cell (p := ⟨w.heap.size + 2, 2, none⟩) (by simp; try omega)).trans (by go_simp)
            have cC3 : W.cell? ⟨w.heap.size + 2, 3, none⟩ = some (.int .i64 c4) := (hbw.cell (p := ⟨w.heap.size + 2, 3, none⟩) (by simp; try omega)).trans (by go_simp)
            have HBW := Lib.hid hBW
            clear hbw hBW
            go_wp2_with fail
            refine (less_any _ _ _ _ _ _ _ _ _).mono ?_
            rintro e W2 ⟨rfl, hbw⟩
            have hs2 : w.heap.size + 2 < W2.heap.size := by have := hbw.size; omega
            have hBW2 := Lib.hid (HBW.out.trans (hbw.mono HBW.out.size))
            replace cA0 := (hbw.cell (p := ⟨w.heap.size, 0, none⟩) (by simp; try omega)).trans cA0
            replace cA1 := (hbw.cell (p := ⟨w.heap.size, 1, none⟩) (by simp; try omega)).trans cA1
            replace cA2 := (hbw.cell (p := ⟨w.heap.size, 2, none⟩) (by simp; try omega)).trans cA2
            replace cA3 := (hbw.cell (p := ⟨w.heap.size, 3, none⟩) (by simp; try omega)).trans cA3
            replace cB0 := (hbw.cell (p := ⟨w.heap.size + 1, 0, none⟩) (by simp; try omega)).trans cB0
            replace cB1 := (hbw.cell (p := ⟨w.heap.size + 1, 1, none⟩) (by simp; try omega)).trans cB1
            replace cB2 := (hbw.cell (p := ⟨w.heap.size + 1, 2, none⟩) (by simp; try omega)).trans cB2
            replace cB3 := (hbw.cell (p := ⟨w.heap.size + 1, 3, none⟩) (by simp; try omega)).trans cB3
            replace cC0 := (hbw.cell (p := ⟨w.heap.size + 2, 0, none⟩) (by simp; try omega)).trans cC0
            replace cC1 := (hbw.cell (p := ⟨w.heap.size + 2, 1, none⟩) (by simp; try omega)).trans cC1
            replace cC2 := (hbw.cell (p := ⟨w.heap.size + 2, 2, none⟩) (by simp; try omega)).trans cC2
            replace cC3 := (hbw.cell (p := ⟨w.heap.size + 2, 3, none⟩) (by simp; try omega)).trans cC3
            clear hbw hs0
            go_wp2_with fail
            refine (less_any _ _ _ _ _ _ _ _ _).mono ?_
            rintro e W3 ⟨rfl, hbw⟩
            have hs3 : w.heap.size + 2 < W3.heap.size := by have := hbw.size; omega
            have hBW3 := Lib.hid (hBW2.out.trans (hbw.mono hBW2.out.size))
            replace cA0 := (hbw.cell (p := ⟨w.heap.size, 0, none⟩) (by simp; try omega)).trans cA0
            replace cA1 := (hbw.cell (p := ⟨w.heap.size, 1, none⟩) (by simp; try omega)).trans cA1
            replace cA2 := (hbw.cell (p := ⟨w.heap.size, 2, none⟩) (by simp; try omega)).trans cA2
            replace cA3 := (hbw.cell (p := ⟨w.heap.size, 3, none⟩) (by simp; try omega)).trans cA3
            replace cB0 := (hbw.cell (p := ⟨w.heap.size + 1, 0, none⟩) (by simp; try omega)).trans cB0
            replace cB1 := (hbw.cell (p := ⟨w.heap.size + 1, 1, none⟩) (by simp; try omega)).trans cB1
            replace cB2 := (hbw.cell (p := ⟨w.heap.size + 1, 2, none⟩) (by simp; try omega)).trans cB2
            replace cB3 := (hbw.cell (p := ⟨w.heap.size + 1, 3, none⟩) (by simp; try omega)).trans cB3
            replace cC0 := (hbw.cell (p := ⟨w.heap.size + 2, 0, none⟩) (by simp; try omega)).trans cC0
            replace cC1 := (hbw.cell (p := ⟨w.heap.size + 2, 1, none⟩) (by simp; try omega)).trans cC1
            replace cC2 := (hbw.cell (p := ⟨w.heap.size + 2, 2, none⟩) (by simp; try omega)).trans cC2
            replace cC3 := (hbw.cell (p := ⟨w.heap.size + 2, 3, none⟩) (by simp; try omega)).trans cC3
            clear hbw hs2
            go_wp2
            have nA0 := fun p : NewBy W3 => NewBy.cell (o := 0) (by omega) cA0 p
            have nA1 := fun p : NewBy W3 => NewBy.cell (o := 1) (by omega) cA1 p
            have nA2 := fun p : NewBy W3 => NewBy.cell (o := 2) (by omega) cA2 p
            have nA3 := fun p : NewBy W3 => NewBy.cell (o := 3) (by omega) cA3 p
            have nB0 := fun p : NewBy W3 => NewBy.cell (o := 0) (by omega) cB0 p
            have nB1 := fun p : NewBy W3 => NewBy.cell (o := 1) (by omega) cB1 p
            have nB2 := fun p : NewBy W3 => NewBy.cell (o := 2) (by omega) cB2 p
            have nB3 := fun p : NewBy W3 => NewBy.cell (o := 3) (by omega) cB3 p
            refine wp_region_new (by kernel_rfl) (by kernel_rfl) ?_
            repeat (go_big_quiet_step (first | (go_at_call 28; exact Calls.new_of (less_any _ _ _ _ _ _ _ _ _)) | (go_at_call 30; exact Calls.new_of (lless_any _ _ _ _ _ _ _ _ _)) | (go_at_call 29; exact Calls.new_of (awake2 _))))
            refine wpQuiet_nil ?_
            intro wz hz
            obtain ⟨pz, hz⟩ := hz
            subst hz
            go_wp2
            go_ret
            exact ⟨rfl, hBW3.out.trans (pz.below.mono hBW3.out.size)⟩

          | false =>
            clear hne
            go_enter Try.func12, Try.ntmps12
            go_wp2_with fail
            refine (less_any _ _ _ _ _ _ _ _ _).mono ?_
            rintro e W ⟨rfl, hbw⟩
            have hs0 : w.heap.size + 2 < W.heap.size := by have := hbw.size; simp at this; omega
            have hBW : Below w.heap.size w W := (below_three _ _ _).trans (hbw.mono (by simp; omega))
            have cA0 : W.cell? ⟨w.heap.size, 0, none⟩ = some (.int .i64 a1) := (hbw.cell (p := ⟨w.heap.size, 0, none⟩) (by simp; try omega)).trans (by go_simp)
            have cA1 : W.cell? ⟨w.heap.size, 1, none⟩ = some (.int .i64 a2) := (hbw.cell (p := ⟨w.heap.size, 1, none⟩) (by simp; try omega)).trans (by go_simp)
            have cA2 : W.cell? ⟨w.heap.size, 2, none⟩ = some (.int .i64 a3) := (hbw.cell (p := ⟨w.heap.size, 2, none⟩) (by simp; try omega)).trans (by go_simp)
            have cA3 : W.cell? ⟨w.heap.size, 3, none⟩ = some (.int .i64 a4) := (hbw.cell (p := ⟨w.heap.size, 3, none⟩) (by simp; try omega)).trans (by go_simp)
            have cB0 : W.cell? ⟨w.heap.size + 1, 0, none⟩ = some (.int .i64 a1) := (hbw.cell (p := ⟨w.heap.size + 1, 0, none⟩) (by simp; try omega)).trans (by go_simp)
            have cB1 : W.cell? ⟨w.heap.size + 1, 1, none⟩ = some (.int .i64 a2) := (hbw.cell (p := ⟨w.heap.size + 1, 1, none⟩) (by simp; try omega)).trans (by go_simp)
            have cB2 : W.cell? ⟨w.heap.size + 1, 2, none⟩ = some (.int .i64 b3) := (hbw.cell (p := ⟨w.heap.size + 1, 2, none⟩) (by simp; try omega)).trans (by go_simp)
            have cB3 : W.cell? ⟨w.heap.size + 1, 3, none⟩ = some (.int .i64 b4) := (hbw.cell (p := ⟨w.heap.size + 1, 3, none⟩) (by simp; try omega)).trans (by go_simp)
            have cC0 : W.cell? ⟨w.heap.size + 2, 0, none⟩ = some (.int .i64 c1) := (hbw.cell (p := ⟨w.heap.size + 2, 0, none⟩) (by simp; try omega)).trans (by go_simp)
            have cC1 : W.cell? ⟨w.heap.size + 2, 1, none⟩ = some (.int .i64 c2) := (hbw.cell (p := ⟨w.heap.size + 2, 1, none⟩) (by simp; try omega)).trans (by go_simp)
            have cC2 : W.cell? ⟨w.heap.size + 2, 2, none⟩ = some (.int .i64 c3) := (hbw.cell (p := ⟨w.heap.size + 2, 2, none⟩) (by simp; try omega)).trans (by go_simp)
            have cC3 : W.cell? ⟨w.heap.size + 2, 3, none⟩ = some (.int .i64 c4) := (hbw.cell (p := ⟨w.heap.size + 2, 3, none⟩) (by simp; try omega)).trans (by go_simp)
            have HBW := Lib.hid hBW
            clear hbw hBW
            go_wp2_with fail
            refine (less_any _ _ _ _ _ _ _ _ _).mono ?_
            rintro e W2 ⟨rfl, hbw⟩
            have hs2 : w.heap.size + 2 < W2.heap.size := by have := hbw.size; omega
            have hBW2 := Lib.hid (HBW.out.trans (hbw.mono HBW.out.size))
            replace cA0 := (hbw.cell (p := ⟨w.heap.size, 0, none⟩) (by simp; try omega)).trans cA0
            replace cA1 := (hbw.cell (p := ⟨w.heap.size, 1, none⟩) (by simp; try omega)).trans cA1
            replace cA2 := (hbw.cell (p := ⟨w.heap.size, 2, none⟩) (by simp; try omega)).trans cA2
            replace cA3 := (hbw.cell (p := ⟨w.heap.size, 3, none⟩) (by simp; try omega)).trans cA3
            replace cB0 := (hbw.cell (p := ⟨w.heap.size + 1, 0, none⟩) (by simp; try omega)).trans cB0
            replace cB1 := (hbw.cell (p := ⟨w.heap.size + 1, 1, none⟩) (by simp; try omega)).trans cB1
            replace cB2 := (hbw.cell (p := ⟨w.heap.size + 1, 2, none⟩) (by simp; try omega)).trans cB2
            replace cB3 := (hbw.cell (p := ⟨w.heap.size + 1, 3, none⟩) (by simp; try omega)).trans cB3
            replace cC0 := (hbw.cell (p := ⟨w.heap.size + 2, 0, none⟩) (by simp; try omega)).trans cC0
            replace cC1 := (hbw.cell (p := ⟨w.heap.size + 2, 1, none⟩) (by simp; try omega)).trans cC1
            replace cC2 := (hbw.cell (p := ⟨w.heap.size + 2, 2, none⟩) (by simp; try omega)).trans cC2
            replace cC3 := (hbw.cell (p := ⟨w.heap.size + 2, 3, none⟩) (by simp; try omega)).trans cC3
            clear hbw hs0
            go_wp2
            have nA0 := fun p : NewBy W2 => NewBy.cell (o := 0) (by omega) cA0 p
            have nA1 := fun p : NewBy W2 => NewBy.cell (o := 1) (by omega) cA1 p
            have nA2 := fun p : NewBy W2 => NewBy.cell (o := 2) (by omega) cA2 p
            have nA3 := fun p : NewBy W2 => NewBy.cell (o := 3) (by omega) cA3 p
            have nB0 := fun p : NewBy W2 => NewBy.cell (o := 0) (by omega) cB0 p
            have nB1 := fun p : NewBy W2 => NewBy.cell (o := 1) (by omega) cB1 p
            have nB2 := fun p : NewBy W2 => NewBy.cell (o := 2) (by omega) cB2 p
            have nB3 := fun p : NewBy W2 => NewBy.cell (o := 3) (by omega) cB3 p
            refine wp_region_new (by kernel_rfl) (by kernel_rfl) ?_
            repeat (go_big_quiet_step (first | (go_at_call 28; exact Calls.new_of (less_any _ _ _ _ _ _ _ _ _)) | (go_at_call 30; exact Calls.new_of (lless_any _ _ _ _ _ _ _ _ _)) | (go_at_call 29; exact Calls.new_of (awake2 _))))
            refine wpQuiet_nil ?_
            intro wz hz
            obtain ⟨pz, hz⟩ := hz
            subst hz
            go_wp2
            go_ret
            exact ⟨rfl, hBW2.out.trans (pz.below.mono hBW2.out.size)⟩

        | false =>
          have hba : klt (a1, a2, b3, b4) (a1, a2, a3, a4) = true := by
            cases h : klt (a1, a2, b3, b4) (a1, a2, a3, a4) with
            | true => rfl
            | false => exact absurd (klt_total hab h) hne
          clear hne
          go_enter Try.func12, Try.ntmps12
          go_wp2_with fail
          refine (less_any _ _ _ _ _ _ _ _ _).mono ?_
          rintro e W ⟨rfl, hbw⟩
          have hs0 : w.heap.size + 2 < W.heap.size := by have := hbw.size; simp at this; omega
          have hBW : Below w.heap.size w W := (below_three _ _ _).trans (hbw.mono (by simp; omega))
          have cA0 : W.cell? ⟨w.heap.size, 0, none⟩ = some (.int .i64 a1) := (hbw.cell (p := ⟨w.heap.size, 0, none⟩) (by simp; try omega)).trans (by go_simp)
          have cA1 : W.cell? ⟨w.heap.size, 1, none⟩ = some (.int .i64 a2) := (hbw.cell (p := ⟨w.heap.size, 1, none⟩) (by simp; try omega)).trans (by go_simp)
          have cA2 : W.cell? ⟨w.heap.size, 2, none⟩ = some (.int .i64 a3) := (hbw.cell (p := ⟨w.heap.size, 2, none⟩) (by simp; try omega)).trans (by go_simp)
          have cA3 : W.cell? ⟨w.heap.size, 3, none⟩ = some (.int .i64 a4) := (hbw.cell (p := ⟨w.heap.size, 3, none⟩) (by simp; try omega)).trans (by go_simp)
          have cB0 : W.cell? ⟨w.heap.size + 1, 0, none⟩ = some (.int .i64 a1) := (hbw.cell (p := ⟨w.heap.size + 1, 0, none⟩) (by simp; try omega)).trans (by go_simp)
          have cB1 : W.cell? ⟨w.heap.size + 1, 1, none⟩ = some (.int .i64 a2) := (hbw.cell (p := ⟨w.heap.size + 1, 1, none⟩) (by simp; try omega)).trans (by go_simp)
          have cB2 : W.cell? ⟨w.heap.size + 1, 2, none⟩ = some (.int .i64 b3) := (hbw.cell (p := ⟨w.heap.size + 1, 2, none⟩) (by simp; try omega)).trans (by go_simp)
          have cB3 : W.cell? ⟨w.heap.size + 1, 3, none⟩ = some (.int .i64 b4) := (hbw.cell (p := ⟨w.heap.size + 1, 3, none⟩) (by simp; try omega)).trans (by go_simp)
          have cC0 : W.cell? ⟨w.heap.size + 2, 0, none⟩ = some (.int .i64 c1) := (hbw.cell (p := ⟨w.heap.size + 2, 0, none⟩) (by simp; try omega)).trans (by go_simp)
          have cC1 : W.cell? ⟨w.heap.size + 2, 1, none⟩ = some (.int .i64 c2) := (hbw.cell (p := ⟨w.heap.size + 2, 1, none⟩) (by simp; try omega)).trans (by go_simp)
          have cC2 : W.cell? ⟨w.heap.size + 2, 2, none⟩ = some (.int .i64 c3) := (hbw.cell (p := ⟨w.heap.size + 2, 2, none⟩) (by simp; try omega)).trans (by go_simp)
          have cC3 : W.cell? ⟨w.heap.size + 2, 3, none⟩ = some (.int .i64 c4) := (hbw.cell (p := ⟨w.heap.size + 2, 3, none⟩) (by simp; try omega)).trans (by go_simp)
          have HBW := Lib.hid hBW
          clear hbw hBW
          go_wp2
          have nA0 := fun p : NewBy W => NewBy.cell (o := 0) (by omega) cA0 p
          have nA1 := fun p : NewBy W => NewBy.cell (o := 1) (by omega) cA1 p
          have nA2 := fun p : NewBy W => NewBy.cell (o := 2) (by omega) cA2 p
          have nA3 := fun p : NewBy W => NewBy.cell (o := 3) (by omega) cA3 p
          have nB0 := fun p : NewBy W => NewBy.cell (o := 0) (by omega) cB0 p
          have nB1 := fun p : NewBy W => NewBy.cell (o := 1) (by omega) cB1 p
          have nB2 := fun p : NewBy W => NewBy.cell (o := 2) (by omega) cB2 p
          have nB3 := fun p : NewBy W => NewBy.cell (o := 3) (by omega) cB3 p
          refine wp_region_new (by kernel_rfl) (by kernel_rfl) ?_
          repeat (go_big_quiet_step (first | (go_at_call 28; exact Calls.new_of (less_any _ _ _ _ _ _ _ _ _)) | (go_at_call 30; exact Calls.new_of (lless_any _ _ _ _ _ _ _ _ _)) | (go_at_call 29; exact Calls.new_of (awake2 _))))
          refine wpQuiet_nil ?_
          intro wz hz
          obtain ⟨pz, hz⟩ := hz
          subst hz
          go_wp2
          go_ret
          exact ⟨rfl, HBW.out.trans (pz.below.mono HBW.out.size)⟩

    · have haa := klt_irrefl (a1, a2, a3, a4)
      have hne : (a1, a2, a3, a4) ≠ (a1, b2, b3, b4) := by intro h; simp at h; omega
      cases hab : klt (a1, a2, a3, a4) (a1, b2, b3, b4) with
      | true =>
        cases hbc : klt (a1, b2, b3, b4) (c1, c2, c3, c4) with
        | true =>
          have hac := klt_trans hab hbc
          clear hne
          go_enter Try.func12, Try.ntmps12
          go_wp2_with fail
          refine (less_any _ _ _ _ _ _ _ _ _).mono ?_
          rintro e W ⟨rfl, hbw⟩
          have hs0 : w.heap.size + 2 < W.heap.size := by have := hbw.size; simp at this; omega
          have hBW : Below w.heap.size w W := (below_three _ _ _).trans (hbw.mono (by simp; omega))
          have cA0 : W.cell? ⟨w.heap.size, 0, none⟩ = some (.int .i64 a1) := (hbw.cell (p := ⟨w.heap.size, 0, none⟩) (by simp; try omega)).trans (by go_simp)
          have cA1 : W.cell? ⟨w.heap.size, 1, none⟩ = some (.int .i64 a2) := (hbw.cell (p := ⟨w.heap.size, 1, none⟩) (by simp; try omega)).trans (by go_simp)
          have cA2 : W.cell? ⟨w.heap.size, 2, none⟩ = some (.int .i64 a3) := (hbw.cell (p := ⟨w.heap.size, 2, none⟩) (by simp; try omega)).trans (by go_simp)
          have cA3 : W.cell? ⟨w.heap.size, 3, none⟩ = some (.int .i64 a4) := (hbw.cell (p := ⟨w.heap.size, 3, none⟩) (by simp; try omega)).trans (by go_simp)
          have cB0 : W.cell? ⟨w.heap.size + 1, 0, none⟩ = some (.int .i64 a1) := (hbw.cell (p := ⟨w.heap.size + 1, 0, none⟩) (by simp; try omega)).trans (by go_simp)
          have cB1 : W.cell? ⟨w.heap.size + 1, 1, none⟩ = some (.int .i64 b2) := (hbw.cell (p := ⟨w.heap.size + 1, 1, none⟩) (by simp; try omega)).trans (by go_simp)
          have cB2 : W.cell? ⟨w.heap.size + 1, 2, none⟩ = some (.int .i64 b3) := (hbw.cell (p := ⟨w.heap.size + 1, 2, none⟩) (by simp; try omega)).trans (by go_simp)
          have cB3 : W.cell? ⟨w.heap.size + 1, 3, none⟩ = some (.int .i64 b4) := (hbw.cell (p := ⟨w.heap.size + 1, 3, none⟩) (by simp; try omega)).trans (by go_simp)
          have cC0 : W.cell? ⟨w.heap.size + 2, 0, none⟩ = some (.int .i64 c1) := (hbw.cell (p := ⟨w.heap.size + 2, 0, none⟩) (by simp; try omega)).trans (by go_simp)
          have cC1 : W.cell? ⟨w.heap.size + 2, 1, none⟩ = some (.int .i64 c2) := (hbw.cell (p := ⟨w.heap.size + 2, 1, none⟩) (by simp; try omega)).trans (by go_simp)
          have cC2 : W.cell? ⟨w.heap.size + 2, 2, none⟩ = some (.int .i64 c3) := (hbw.cell (p := ⟨w.heap.size + 2, 2, none⟩) (by simp; try omega)).trans (by go_simp)
          have cC3 : W.cell? ⟨w.heap.size + 2, 3, none⟩ = some (.int .i64 c4) := (hbw.cell (p := ⟨w.heap.size + 2, 3, none⟩) (by simp; try omega)).trans (by go_simp)
          have HBW := Lib.hid hBW
          clear hbw hBW
          go_wp2_with fail
          refine (less_any _ _ _ _ _ _ _ _ _).mono ?_
          rintro e W2 ⟨rfl, hbw⟩
          have hs2 : w.heap.size + 2 < W2.heap.size := by have := hbw.size; omega
          have hBW2 := Lib.hid (HBW.out.trans (hbw.mono HBW.out.size))
          replace cA0 := (hbw.cell (p := ⟨w.heap.size, 0, none⟩) (by simp; try omega)).trans cA0
          replace cA1 := (hbw.cell (p := ⟨w.heap.size, 1, none⟩) (by simp; try omega)).trans cA1
          replace cA2 := (hbw.cell (p := ⟨w.heap.size, 2, none⟩) (by simp; try omega)).trans cA2
          replace cA3 := (hbw.cell (p := ⟨w.heap.size, 3, none⟩) (by simp; try omega)).trans cA3
          replace cB0 := (hbw.cell (p := ⟨w.heap.size + 1, 0, none⟩) (by simp; try omega)).trans cB0
          replace cB1 := (hbw.cell (p := ⟨w.heap.size + 1, 1, none⟩) (by simp; try omega)).trans cB1
          replace cB2 := (hbw.cell (p := ⟨w.heap.size + 1, 2, none⟩) (by simp; try omega)).trans cB2
          replace cB3 := (hbw.cell (p := ⟨w.heap.size + 1, 3, none⟩) (by simp; try omega)).trans cB3
          replace cC0 := (hbw.cell (p := ⟨w.heap.size + 2, 0, none⟩) (by simp; try omega)).trans cC0
          replace cC1 := (hbw.cell (p := ⟨w.heap.size + 2, 1, none⟩) (by simp; try omega)).trans cC1
          replace cC2 := (hbw.cell (p := ⟨w.heap.size + 2, 2, none⟩) (by simp; try omega)).trans cC2
          replace cC3 := (hbw.cell (p := ⟨w.heap.size + 2, 3, none⟩) (by simp; try omega)).trans cC3
          clear hbw hs0
          go_wp2_with fail
          refine (less_any _ _ _ _ _ _ _ _ _).mono ?_
          rintro e W3 ⟨rfl, hbw⟩
          have hs3 : w.heap.size + 2 < W3.heap.size := by have := hbw.size; omega
          have hBW3 := Lib.hid (hBW2.out.trans (hbw.mono hBW2.out.size))
          replace cA0 := (hbw.cell (p := ⟨w.heap.size, 0, none⟩) (by simp; try omega)).trans cA0
          replace cA1 := (hbw.cell (p := ⟨w.heap.size, 1, none⟩) (by simp; try omega)).trans cA1
          replace cA2 := (hbw.cell (p := ⟨w.heap.size, 2, none⟩) (by simp; try omega)).trans cA2
          replace cA3 := (hbw.cell (p := ⟨w.heap.size, 3, none⟩) (by simp; try omega)).trans cA3
          replace cB0 := (hbw.cell (p := ⟨w.heap.size + 1, 0, none⟩) (by simp; try omega)).trans cB0
          replace cB1 := (hbw.cell (p := ⟨w.heap.size + 1, 1, none⟩) (by simp; try omega)).trans cB1
          replace cB2 := (hbw.cell (p := ⟨w.heap.size + 1, 2, none⟩) (by simp; try omega)).trans cB2
          replace cB3 := (hbw.cell (p := ⟨w.heap.size + 1, 3, none⟩) (by simp; try omega)).trans cB3
          replace cC0 := (hbw.cell (p := ⟨w.heap.size + 2, 0, none⟩) (by simp; try omega)).trans cC0
          replace cC1 := (hbw.cell (p := ⟨w.heap.size + 2, 1, none⟩) (by simp; try omega)).trans cC1
          replace cC2 := (hbw.cell (p := ⟨w.heap.size + 2, 2, none⟩) (by simp; try omega)).trans cC2
          replace cC3 := (hbw.cell (p := ⟨w.heap.size + 2, 3, none⟩) (by simp; try omega)).trans cC3
          clear hbw hs2
          go_wp2
          have nA0 := fun p : NewBy W3 => NewBy.cell (o := 0) (by omega) cA0 p
          have nA1 := fun p : NewBy W3 => NewBy.cell (o := 1) (by omega) cA1 p
          have nA2 := fun p : NewBy W3 => NewBy.cell (o := 2) (by omega) cA2 p
          have nA3 := fun p : NewBy W3 => NewBy.cell (o := 3) (by omega) cA3 p
          have nB0 := fun p : NewBy W3 => NewBy.cell (o := 0) (by omega) cB0 p
          have nB1 := fun p : NewBy W3 => NewBy.cell (o := 1) (by omega) cB1 p
          have nB2 := fun p : NewBy W3 => NewBy.cell (o := 2) (by omega) cB2 p
          have nB3 := fun p : NewBy W3 => NewBy.cell (o := 3) (by omega) cB3 p
          refine wp_region_new (by kernel_rfl) (by kernel_rfl) ?_
          repeat (go_big_quiet_step (first | (go_at_call 28; exact Calls.new_of (less_any _ _ _ _ _ _ _ _ _)) | (go_at_call 30; exact Calls.new_of (lless_any _ _ _ _ _ _ _ _ _)) | (go_at_call 29; exact Calls.new_of (awake2 _))))
          refine wpQuiet_nil ?_
          intro wz hz
          obtain ⟨pz, hz⟩ := hz
          subst hz
          go_wp2
          go_ret
          exact ⟨rfl, hBW3.out.trans (pz.below.mono hBW3.out.size)⟩

        | false =>
          clear hne
          go_enter Try.func12, Try.ntmps12
          go_wp2_with fail
          refine (less_any _ _ _ _ _ _ _ _ _).mono ?_
          rintro e W ⟨rfl, hbw⟩
          have hs0 : w.heap.size + 2 < W.heap.size := by have := hbw.size; simp at this; omega
          have hBW : Below w.heap.size w W := (below_three _ _ _).trans (hbw.mono (by simp; omega))
          have cA0 : W.cell? ⟨w.heap.size, 0, none⟩ = some (.int .i64 a1) := (hbw.cell (p := ⟨w.heap.size, 0, none⟩) (by simp; try omega)).trans (by go_simp)
          have cA1 : W.cell? ⟨w.heap.size, 1, none⟩ = some (.int .i64 a2) := (hbw.cell (p := ⟨w.heap.size, 1, none⟩) (by simp; try omega)).trans (by go_simp)
          have cA2 : W.cell? ⟨w.heap.size, 2, none⟩ = some (.int .i64 a3) := (hbw.cell (p := ⟨w.heap.size, 2, none⟩) (by simp; try omega)).trans (by go_simp)
          have cA3 : W.cell? ⟨w.heap.size, 3, none⟩ = some (.int .i64 a4) := (hbw.cell (p := ⟨w.heap.size, 3, none⟩) (by simp; try omega)).trans (by go_simp)
          have cB0 : W.cell? ⟨w.heap.size + 1, 0, none⟩ = some (.int .i64 a1) := (hbw.cell (p := ⟨w.heap.size + 1, 0, none⟩) (by simp; try omega)).trans (by go_simp)
          have cB1 : W.cell? ⟨w.heap.size + 1, 1, none⟩ = some (.int .i64 b2) := (hbw.cell (p := ⟨w.heap.size + 1, 1, none⟩) (by simp; try omega)).trans (by go_simp)
          have cB2 : W.cell? ⟨w.heap.size + 1, 2, none⟩ = some (.int .i64 b3) := (hbw.cell (p := ⟨w.heap.size + 1, 2, none⟩) (by simp; try omega)).trans (by go_simp)
          have cB3 : W.cell? ⟨w.heap.size + 1, 3, none⟩ = some (.int .i64 b4) := (hbw.cell (p := ⟨w.heap.size + 1, 3, none⟩) (by simp; try omega)).trans (by go_simp)
          have cC0 : W.cell? ⟨w.heap.size + 2, 0, none⟩ = some (.int .i64 c1) := (hbw.cell (p := ⟨w.heap.size + 2, 0, none⟩) (by simp; try omega)).trans (by go_simp)
          have cC1 : W.cell? ⟨w.heap.size + 2, 1, none⟩ = some (.int .i64 c2) := (hbw.cell (p := ⟨w.heap.size + 2, 1, none⟩) (by simp; try omega)).trans (by go_simp)
          have cC2 : W.cell? ⟨w.heap.size + 2, 2, none⟩ = some (.int .i64 c3) := (hbw.cell (p := ⟨w.heap.size + 2, 2, none⟩) (by simp; try omega)).trans (by go_simp)
          have cC3 : W.cell? ⟨w.heap.size + 2, 3, none⟩ = some (.int .i64 c4) := (hbw.cell (p := ⟨w.heap.size + 2, 3, none⟩) (by simp; try omega)).trans (by go_simp)
          have HBW := Lib.hid hBW
          clear hbw hBW
          go_wp2_with fail
          refine (less_any _ _ _ _ _ _ _ _ _).mono ?_
          rintro e W2 ⟨rfl, hbw⟩
          have hs2 : w.heap.size + 2 < W2.heap.size := by have := hbw.size; omega
          have hBW2 := Lib.hid (HBW.out.trans (hbw.mono HBW.out.size))
          replace cA0 := (hbw.cell (p := ⟨w.heap.size, 0, none⟩) (by simp; try omega)).trans cA0
          replace cA1 := (hbw.cell (p := ⟨w.heap.size, 1, none⟩) (by simp; try omega)).trans cA1
          replace cA2 := (hbw.cell (p := ⟨w.heap.size, 2, none⟩) (by simp; try omega)).trans cA2
          replace cA3 := (hbw.cell (p := ⟨w.heap.size, 3, none⟩) (by simp; try omega)).trans cA3
          replace cB0 := (hbw.cell (p := ⟨w.heap.size + 1, 0, none⟩) (by simp; try omega)).trans cB0
          replace cB1 := (hbw.cell (p := ⟨w.heap.size + 1, 1, none⟩) (by simp; try omega)).trans cB1
          replace cB2 := (hbw.cell (p := ⟨w.heap.size + 1, 2, none⟩) (by simp; try omega)).trans cB2
          replace cB3 := (hbw.cell (p := ⟨w.heap.size + 1, 3, none⟩) (by simp; try omega)).trans cB3
          replace cC0 := (hbw.cell (p := ⟨w.heap.size + 2, 0, none⟩) (by simp; try omega)).trans cC0
          replace cC1 := (hbw.cell (p := ⟨w.heap.size + 2, 1, none⟩) (by simp; try omega)).trans cC1
          replace cC2 := (hbw.cell (p := ⟨w.heap.size + 2, 2, none⟩) (by simp; try omega)).trans cC2
          replace cC3 := (hbw.cell (p := ⟨w.heap.size + 2, 3, none⟩) (by simp; try omega)).trans cC3
          clear hbw hs0
          go_wp2
          have nA0 := fun p : NewBy W2 => NewBy.cell (o := 0) (by omega) cA0 p
          have nA1 := fun p : NewBy W2 => NewBy.cell (o := 1) (by omega) cA1 p
          have nA2 := fun p : NewBy W2 => NewBy.cell (o := 2) (by omega) cA2 p
          have nA3 := fun p : NewBy W2 => NewBy.cell (o := 3) (by omega) cA3 p
          have nB0 := fun p : NewBy W2 => NewBy.cell (o := 0) (by omega) cB0 p
          have nB1 := fun p : NewBy W2 => NewBy.cell (o := 1) (by omega) cB1 p
          have nB2 := fun p : NewBy W2 => NewBy.cell (o := 2) (by omega) cB2 p
          have nB3 := fun p : NewBy W2 => NewBy.cell (o := 3) (by omega) cB3 p
          refine wp_region_new (by kernel_rfl) (by kernel_rfl) ?_
          repeat (go_big_quiet_step (first | (go_at_call 28; exact Calls.new_of (less_any _ _ _ _ _ _ _ _ _)) | (go_at_call 30; exact Calls.new_of (lless_any _ _ _ _ _ _ _ _ _)) | (go_at_call 29; exact Calls.new_of (awake2 _))))
          refine wpQuiet_nil ?_
          intro wz hz
          obtain ⟨pz, hz⟩ := hz
          subst hz
          go_wp2
          go_ret
          exact ⟨rfl, hBW2.out.trans (pz.below.mono hBW2.out.size)⟩

      | false =>
        have hba : klt (a1, b2, b3, b4) (a1, a2, a3, a4) = true := by
          cases h : klt (a1, b2, b3, b4) (a1, a2, a3, a4) with
          | true => rfl
          | false => exact absurd (klt_total hab h) hne
        clear hne
        go_enter Try.func12, Try.ntmps12
        go_wp2_with fail
        refine (less_any _ _ _ _ _ _ _ _ _).mono ?_
        rintro e W ⟨rfl, hbw⟩
        have hs0 : w.heap.size + 2 < W.heap.size := by have := hbw.size; simp at this; omega
        have hBW : Below w.heap.size w W := (below_three _ _ _).trans (hbw.mono (by simp; omega))
        have cA0 : W.cell? ⟨w.heap.size, 0, none⟩ = some (.int .i64 a1) := (hbw.cell (p := ⟨w.heap.size, 0, none⟩) (by simp; try omega)).trans (by go_simp)
        have cA1 : W.cell? ⟨w.heap.size, 1, none⟩ = some (.int .i64 a2) := (hbw.cell (p := ⟨w.heap.size, 1, none⟩) (by simp; try omega)).trans (by go_simp)
        have cA2 : W.cell? ⟨w.heap.size, 2, none⟩ = some (.int .i64 a3) := (hbw.cell (p := ⟨w.heap.size, 2, none⟩) (by simp; try omega)).trans (by go_simp)
        have cA3 : W.cell? ⟨w.heap.size, 3, none⟩ = some (.int .i64 a4) := (hbw.cell (p := ⟨w.heap.size, 3, none⟩) (by simp; try omega)).trans (by go_simp)
        have cB0 : W.cell? ⟨w.heap.size + 1, 0, none⟩ = some (.int .i64 a1) := (hbw.cell (p := ⟨w.heap.size + 1, 0, none⟩) (by simp; try omega)).trans (by go_simp)
        have cB1 : W.cell? ⟨w.heap.size + 1, 1, none⟩ = some (.int .i64 b2) := (hbw.cell (p := ⟨w.heap.size + 1, 1, none⟩) (by simp; try omega)).trans (by go_simp)
        have cB2 : W.cell? ⟨w.heap.size + 1, 2, none⟩ = some (.int .i64 b3) := (hbw.cell (p := ⟨w.heap.size + 1, 2, none⟩) (by simp; try omega)).trans (by go_simp)
        have cB3 : W.cell? ⟨w.heap.size + 1, 3, none⟩ = some (.int .i64 b4) := (hbw.cell (p := ⟨w.heap.size + 1, 3, none⟩) (by simp; try omega)).trans (by go_simp)
        have cC0 : W.cell? ⟨w.heap.size + 2, 0, none⟩ = some (.int .i64 c1) := (hbw.cell (p := ⟨w.heap.size + 2, 0, none⟩) (by simp; try omega)).trans (by go_simp)
        have cC1 : W.cell? ⟨w.heap.size + 2, 1, none⟩ = some (.int .i64 c2) := (hbw.cell (p := ⟨w.heap.size + 2, 1, none⟩) (by simp; try omega)).trans (by go_simp)
        have cC2 : W.cell? ⟨w.heap.size + 2, 2, none⟩ = some (.int .i64 c3) := (hbw.cell (p := ⟨w.heap.size + 2, 2, none⟩) (by simp; try omega)).trans (by go_simp)
        have cC3 : W.cell? ⟨w.heap.size + 2, 3, none⟩ = some (.int .i64 c4) := (hbw.cell (p := ⟨w.heap.size + 2, 3, none⟩) (by simp; try omega)).trans (by go_simp)
        have HBW := Lib.hid hBW
        clear hbw hBW
        go_wp2
        have nA0 := fun p : NewBy W => NewBy.cell (o := 0) (by omega) cA0 p
        have nA1 := fun p : NewBy W => NewBy.cell (o := 1) (by omega) cA1 p
        have nA2 := fun p : NewBy W => NewBy.cell (o := 2) (by omega) cA2 p
        have nA3 := fun p : NewBy W => NewBy.cell (o := 3) (by omega) cA3 p
        have nB0 := fun p : NewBy W => NewBy.cell (o := 0) (by omega) cB0 p
        have nB1 := fun p : NewBy W => NewBy.cell (o := 1) (by omega) cB1 p
        have nB2 := fun p : NewBy W => NewBy.cell (o := 2) (by omega) cB2 p
        have nB3 := fun p : NewBy W => NewBy.cell (o := 3) (by omega) cB3 p
        refine wp_region_new (by kernel_rfl) (by kernel_rfl) ?_
        repeat (go_big_quiet_step (first | (go_at_call 28; exact Calls.new_of (less_any _ _ _ _ _ _ _ _ _)) | (go_at_call 30; exact Calls.new_of (lless_any _ _ _ _ _ _ _ _ _)) | (go_at_call 29; exact Calls.new_of (awake2 _))))
        refine wpQuiet_nil ?_
        intro wz hz
        obtain ⟨pz, hz⟩ := hz
        subst hz
        go_wp2
        go_ret
        exact ⟨rfl, HBW.out.trans (pz.below.mono HBW.out.size)⟩

  · have haa := klt_irrefl (a1, a2, a3, a4)
    have hne : (a1, a2, a3, a4) ≠ (b1, b2, b3, b4) := by intro h; simp at h; omega
    cases hab : klt (a1, a2, a3, a4) (b1, b2, b3, b4) with
    | true =>
      cases hbc : klt (b1, b2, b3, b4) (c1, c2, c3, c4) with
      | true =>
        have hac := klt_trans hab hbc
        clear hne
        go_enter Try.func12, Try.ntmps12
        go_wp2_with fail
        refine (less_any _ _ _ _ _ _ _ _ _).mono ?_
        rintro e W ⟨rfl, hbw⟩
        have hs0 : w.heap.size + 2 < W.heap.size := by have := hbw.size; simp at this; omega
        have hBW : Below w.heap.size w W := (below_three _ _ _).trans (hbw.mono (by simp; omega))
        have cA0 : W.cell? ⟨w.heap.size, 0, none⟩ = some (.int .i64 a1) := (hbw.cell (p := ⟨w.heap.size, 0, none⟩) (by simp; try omega)).trans (by go_simp)
        have cA1 : W.cell? ⟨w.heap.size, 1, none⟩ = some (.int .i64 a2) := (hbw.cell (p := ⟨w.heap.size, 1, none⟩) (by simp; try omega)).trans (by go_simp)
        have cA2 : W.cell? ⟨w.heap.size, 2, none⟩ = some (.int .i64 a3) := (hbw.cell (p := ⟨w.heap.size, 2, none⟩) (by simp; try omega)).trans (by go_simp)
        have cA3 : W.cell? ⟨w.heap.size, 3, none⟩ = some (.int .i64 a4) := (hbw.cell (p := ⟨w.heap.size, 3, none⟩) (by simp; try omega)).trans (by go_simp)
        have cB0 : W.cell? ⟨w.heap.size + 1, 0, none⟩ = some (.int .i64 b1) := (hbw.cell (p := ⟨w.heap.size + 1, 0, none⟩) (by simp; try omega)).trans (by go_simp)
        have cB1 : W.cell? ⟨w.heap.size + 1, 1, none⟩ = some (.int .i64 b2) := (hbw.cell (p := ⟨w.heap.size + 1, 1, none⟩) (by simp; try omega)).trans (by go_simp)
        have cB2 : W.cell? ⟨w.heap.size + 1, 2, none⟩ = some (.int .i64 b3) := (hbw.cell (p := ⟨w.heap.size + 1, 2, none⟩) (by simp; try omega)).trans (by go_simp)
        have cB3 : W.cell? ⟨w.heap.size + 1, 3, none⟩ = some (.int .i64 b4) := (hbw.cell (p := ⟨w.heap.size + 1, 3, none⟩) (by simp; try omega)).trans (by go_simp)
        have cC0 : W.cell? ⟨w.heap.size + 2, 0, none⟩ = some (.int .i64 c1) := (hbw.cell (p := ⟨w.heap.size + 2, 0, none⟩) (by simp; try omega)).trans (by go_simp)
        have cC1 : W.cell? ⟨w.heap.size + 2, 1, none⟩ = some (.int .i64 c2) := (hbw.cell (p := ⟨w.heap.size + 2, 1, none⟩) (by simp; try omega)).trans (by go_simp)
        have cC2 : W.cell? ⟨w.heap.size + 2, 2, none⟩ = some (.int .i64 c3) := (hbw.cell (p := ⟨w.heap.size + 2, 2, none⟩) (by simp; try omega)).trans (by go_simp)
        have cC3 : W.cell? ⟨w.heap.size + 2, 3, none⟩ = some (.int .i64 c4) := (hbw.cell (p := ⟨w.heap.size + 2, 3, none⟩) (by simp; try omega)).trans (by go_simp)
        have HBW := Lib.hid hBW
        clear hbw hBW
        go_wp2_with fail
        refine (less_any _ _ _ _ _ _ _ _ _).mono ?_
        rintro e W2 ⟨rfl, hbw⟩
        have hs2 : w.heap.size + 2 < W2.heap.size := by have := hbw.size; omega
        have hBW2 := Lib.hid (HBW.out.trans (hbw.mono HBW.out.size))
        replace cA0 := (hbw.cell (p := ⟨w.heap.size, 0, none⟩) (by simp; try omega)).trans cA0
        replace cA1 := (hbw.cell (p := ⟨w.heap.size, 1, none⟩) (by simp; try omega)).trans cA1
        replace cA2 := (hbw.cell (p := ⟨w.heap.size, 2, none⟩) (by simp; try omega)).trans cA2
        replace cA3 := (hbw.cell (p := ⟨w.heap.size, 3, none⟩) (by simp; try omega)).trans cA3
        replace cB0 := (hbw.cell (p := ⟨w.heap.size + 1, 0, none⟩) (by simp; try omega)).trans cB0
        replace cB1 := (hbw.cell (p := ⟨w.heap.size + 1, 1, none⟩) (by simp; try omega)).trans cB1
        replace cB2 := (hbw.cell (p := ⟨w.heap.size + 1, 2, none⟩) (by simp; try omega)).trans cB2
        replace cB3 := (hbw.cell (p := ⟨w.heap.size + 1, 3, none⟩) (by simp; try omega)).trans cB3
        replace cC0 := (hbw.cell (p := ⟨w.heap.size + 2, 0, none⟩) (by simp; try omega)).trans cC0
        replace cC1 := (hbw.cell (p := ⟨w.heap.size + 2, 1, none⟩) (by simp; try omega)).trans cC1
        replace cC2 := (hbw.cell (p := ⟨w.heap.size + 2, 2, none⟩) (by simp; try omega)).trans cC2
        replace cC3 := (hbw.cell (p := ⟨w.heap.size + 2, 3, none⟩) (by simp; try omega)).trans cC3
        clear hbw hs0
        go_wp2_with fail
        refine (less_any _ _ _ _ _ _ _ _ _).mono ?_
        rintro e W3 ⟨rfl, hbw⟩
        have hs3 : w.heap.size + 2 < W3.heap.size := by have := hbw.size; omega
        have hBW3 := Lib.hid (hBW2.out.trans (hbw.mono hBW2.out.size))
        replace cA0 := (hbw.cell (p := ⟨w.heap.size, 0, none⟩) (by simp; try omega)).trans cA0
        replace cA1 := (hbw.cell (p := ⟨w.heap.size, 1, none⟩) (by simp; try omega)).trans cA1
        replace cA2 := (hbw.cell (p := ⟨w.heap.size, 2, none⟩) (by simp; try omega)).trans cA2
        replace cA3 := (hbw.cell (p := ⟨w.heap.size, 3, none⟩) (by simp; try omega)).trans cA3
        replace cB0 := (hbw.cell (p := ⟨w.heap.size + 1, 0, none⟩) (by simp; try omega)).trans cB0
        replace cB1 := (hbw.cell (p := ⟨w.heap.size + 1, 1, none⟩) (by simp; try omega)).trans cB1
        replace cB2 := (hbw.cell (p := ⟨w.heap.size + 1, 2, none⟩) (by simp; try omega)).trans cB2
        replace cB3 := (hbw.cell (p := ⟨w.heap.size + 1, 3, none⟩) (by simp; try omega)).trans cB3
        replace cC0 := (hbw.cell (p := ⟨w.heap.size + 2, 0, none⟩) (by simp; try omega)).trans cC0
        replace cC1 := (hbw.cell (p := ⟨w.heap.size + 2, 1, none⟩) (by simp; try omega)).trans cC1
        replace cC2 := (hbw.cell (p := ⟨w.heap.size + 2, 2, none⟩) (by simp; try omega)).trans cC2
        replace cC3 := (hbw.cell (p := ⟨w.heap.size + 2, 3, none⟩) (by simp; try omega)).trans cC3
        clear hbw hs2
        go_wp2
        have nA0 := fun p : NewBy W3 => NewBy.cell (o := 0) (by omega) cA0 p
        have nA1 := fun p : NewBy W3 => NewBy.cell (o := 1) (by omega) cA1 p
        have nA2 := fun p : NewBy W3 => NewBy.cell (o := 2) (by omega) cA2 p
        have nA3 := fun p : NewBy W3 => NewBy.cell (o := 3) (by omega) cA3 p
        have nB0 := fun p : NewBy W3 => NewBy.cell (o := 0) (by omega) cB0 p
        have nB1 := fun p : NewBy W3 => NewBy.cell (o := 1) (by omega) cB1 p
        have nB2 := fun p : NewBy W3 => NewBy.cell (o := 2) (by omega) cB2 p
        have nB3 := fun p : NewBy W3 => NewBy.cell (o := 3) (by omega) cB3 p
        refine wp_region_new (by kernel_rfl) (by kernel_rfl) ?_
        repeat (go_big_quiet_step (first | (go_at_call 28; exact Calls.new_of (less_any _ _ _ _ _ _ _ _ _)) | (go_at_call 30; exact Calls.new_of (lless_any _ _ _ _ _ _ _ _ _)) | (go_at_call 29; exact Calls.new_of (awake2 _))))
        refine wpQuiet_nil ?_
        intro wz hz
        obtain ⟨pz, hz⟩ := hz
        subst hz
        go_wp2
        go_ret
        exact ⟨rfl, hBW3.out.trans (pz.below.mono hBW3.out.size)⟩

      | false =>
        clear hne
        go_enter Try.func12, Try.ntmps12
        go_wp2_with fail
        refine (less_any _ _ _ _ _ _ _ _ _).mono ?_
        rintro e W ⟨rfl, hbw⟩
        have hs0 : w.heap.size + 2 < W.heap.size := by have := hbw.size; simp at this; omega
        have hBW : Below w.heap.size w W := (below_three _ _ _).trans (hbw.mono (by simp; omega))
        have cA0 : W.cell? ⟨w.heap.size, 0, none⟩ = some (.int .i64 a1) := (hbw.cell (p := ⟨w.heap.size, 0, none⟩) (by simp; try omega)).trans (by go_simp)
        have cA1 : W.cell? ⟨w.heap.size, 1, none⟩ = some (.int .i64 a2) := (hbw.cell (p := ⟨w.heap.size, 1, none⟩) (by simp; try omega)).trans (by go_simp)
        have cA2 : W.cell? ⟨w.heap.size, 2, none⟩ = some (.int .i64 a3) := (hbw.cell (p := ⟨w.heap.size, 2, none⟩) (by simp; try omega)).trans (by go_simp)
        have cA3 : W.cell? ⟨w.heap.size, 3, none⟩ = some (.int .i64 a4) := (hbw.cell (p := ⟨w.heap.size, 3, none⟩) (by simp; try omega)).trans (by go_simp)
        have cB0 : W.cell? ⟨w.heap.size + 1, 0, none⟩ = some (.int .i64 b1) := (hbw.cell (p := ⟨w.heap.size + 1, 0, none⟩) (by simp; try omega)).trans (by go_simp)
        have cB1 : W.cell? ⟨w.heap.size + 1, 1, none⟩ = some (.int .i64 b2) := (hbw.cell (p := ⟨w.heap.size + 1, 1, none⟩) (by simp; try omega)).trans (by go_simp)
        have cB2 : W.cell? ⟨w.heap.size + 1, 2, none⟩ = some (.int .i64 b3) := (hbw.cell (p := ⟨w.heap.size + 1, 2, none⟩) (by simp; try omega)).trans (by go_simp)
        have cB3 : W.cell? ⟨w.heap.size + 1, 3, none⟩ = some (.int .i64 b4) := (hbw.cell (p := ⟨w.heap.size + 1, 3, none⟩) (by simp; try omega)).trans (by go_simp)
        have cC0 : W.cell? ⟨w.heap.size + 2, 0, none⟩ = some (.int .i64 c1) := (hbw.cell (p := ⟨w.heap.size + 2, 0, none⟩) (by simp; try omega)).trans (by go_simp)
        have cC1 : W.cell? ⟨w.heap.size + 2, 1, none⟩ = some (.int .i64 c2) := (hbw.cell (p := ⟨w.heap.size + 2, 1, none⟩) (by simp; try omega)).trans (by go_simp)
        have cC2 : W.cell? ⟨w.heap.size + 2, 2, none⟩ = some (.int .i64 c3) := (hbw.cell (p := ⟨w.heap.size + 2, 2, none⟩) (by simp; try omega)).trans (by go_simp)
        have cC3 : W.cell? ⟨w.heap.size + 2, 3, none⟩ = some (.int .i64 c4) := (hbw.cell (p := ⟨w.heap.size + 2, 3, none⟩) (by simp; try omega)).trans (by go_simp)
        have HBW := Lib.hid hBW
        clear hbw hBW
        go_wp2_with fail
        refine (less_any _ _ _ _ _ _ _ _ _).mono ?_
        rintro e W2 ⟨rfl, hbw⟩
        have hs2 : w.heap.size + 2 < W2.heap.size := by have := hbw.size; omega
        have hBW2 := Lib.hid (HBW.out.trans (hbw.mono HBW.out.size))
        replace cA0 := (hbw.cell (p := ⟨w.heap.size, 0, none⟩) (by simp; try omega)).trans cA0
        replace cA1 := (hbw.cell (p := ⟨w.heap.size, 1, none⟩) (by simp; try omega)).trans cA1
        replace cA2 := (hbw.cell (p := ⟨w.heap.size, 2, none⟩) (by simp; try omega)).trans cA2
        replace cA3 := (hbw.cell (p := ⟨w.heap.size, 3, none⟩) (by simp; try omega)).trans cA3
        replace cB0 := (hbw.cell (p := ⟨w.heap.size + 1, 0, none⟩) (by simp; try omega)).trans cB0
        replace cB1 := (hbw.cell (p := ⟨w.heap.size + 1, 1, none⟩) (by simp; try omega)).trans cB1
        replace cB2 := (hbw.cell (p := ⟨w.heap.size + 1, 2, none⟩) (by simp; try omega)).trans cB2
        replace cB3 := (hbw.cell (p := ⟨w.heap.size + 1, 3, none⟩) (by simp; try omega)).trans cB3
        replace cC0 := (hbw.cell (p := ⟨w.heap.size + 2, 0, none⟩) (by simp; try omega)).trans cC0
        replace cC1 := (hbw.cell (p := ⟨w.heap.size + 2, 1, none⟩) (by simp; try omega)).trans cC1
        replace cC2 := (hbw.cell (p := ⟨w.heap.size + 2, 2, none⟩) (by simp; try omega)).trans cC2
        replace cC3 := (hbw.cell (p := ⟨w.heap.size + 2, 3, none⟩) (by simp; try omega)).trans cC3
        clear hbw hs0
        go_wp2
        have nA0 := fun p : NewBy W2 => NewBy.cell (o := 0) (by omega) cA0 p
        have nA1 := fun p : NewBy W2 => NewBy.cell (o := 1) (by omega) cA1 p
        have nA2 := fun p : NewBy W2 => NewBy.cell (o := 2) (by omega) cA2 p
        have nA3 := fun p : NewBy W2 => NewBy.cell (o := 3) (by omega) cA3 p
        have nB0 := fun p : NewBy W2 => NewBy.cell (o := 0) (by omega) cB0 p
        have nB1 := fun p : NewBy W2 => NewBy.cell (o := 1) (by omega) cB1 p
        have nB2 := fun p : NewBy W2 => NewBy.cell (o := 2) (by omega) cB2 p
        have nB3 := fun p : NewBy W2 => NewBy.cell (o := 3) (by omega) cB3 p
        refine wp_region_new (by kernel_rfl) (by kernel_rfl) ?_
        repeat (go_big_quiet_step (first | (go_at_call 28; exact Calls.new_of (less_any _ _ _ _ _ _ _ _ _)) | (go_at_call 30; exact Calls.new_of (lless_any _ _ _ _ _ _ _ _ _)) | (go_at_call 29; exact Calls.new_of (awake2 _))))
        refine wpQuiet_nil ?_
        intro wz hz
        obtain ⟨pz, hz⟩ := hz
        subst hz
        go_wp2
        go_ret
        exact ⟨rfl, hBW2.out.trans (pz.below.mono hBW2.out.size)⟩

    | false =>
      have hba : klt (b1, b2, b3, b4) (a1, a2, a3, a4) = true := by
        cases h : klt (b1, b2, b3, b4) (a1, a2, a3, a4) with
        | true => rfl
        | false => exact absurd (klt_total hab h) hne
      clear hne
      go_enter Try.func12, Try.ntmps12
      go_wp2_with fail
      refine (less_any _ _ _ _ _ _ _ _ _).mono ?_
      rintro e W ⟨rfl, hbw⟩
      have hs0 : w.heap.size + 2 < W.heap.size := by have := hbw.size; simp at this; omega
      have hBW : Below w.heap.size w W := (below_three _ _ _).trans (hbw.mono (by simp; omega))
      have cA0 : W.cell? ⟨w.heap.size, 0, none⟩ = some (.int .i64 a1) := (hbw.cell (p := ⟨w.heap.size, 0, none⟩) (by simp; try omega)).trans (by go_simp)
      have cA1 : W.cell? ⟨w.heap.size, 1, none⟩ = some (.int .i64 a2) := (hbw.cell (p := ⟨w.heap.size, 1, none⟩) (by simp; try omega)).trans (by go_simp)
      have cA2 : W.cell? ⟨w.heap.size, 2, none⟩ = some (.int .i64 a3) := (hbw.cell (p := ⟨w.heap.size, 2, none⟩) (by simp; try omega)).trans (by go_simp)
      have cA3 : W.cell? ⟨w.heap.size, 3, none⟩ = some (.int .i64 a4) := (hbw.cell (p := ⟨w.heap.size, 3, none⟩) (by simp; try omega)).trans (by go_simp)
      have cB0 : W.cell? ⟨w.heap.size + 1, 0, none⟩ = some (.int .i64 b1) := (hbw.cell (p := ⟨w.heap.size + 1, 0, none⟩) (by simp; try omega)).trans (by go_simp)
      have cB1 : W.cell? ⟨w.heap.size + 1, 1, none⟩ = some (.int .i64 b2) := (hbw.cell (p := ⟨w.heap.size + 1, 1, none⟩) (by simp; try omega)).trans (by go_simp)
      have cB2 : W.cell? ⟨w.heap.size + 1, 2, none⟩ = some (.int .i64 b3) := (hbw.cell (p := ⟨w.heap.size + 1, 2, none⟩) (by simp; try omega)).trans (by go_simp)
      have cB3 : W.cell? ⟨w.heap.size + 1, 3, none⟩ = some (.int .i64 b4) := (hbw.cell (p := ⟨w.heap.size + 1, 3, none⟩) (by simp; try omega)).trans (by go_simp)
      have cC0 : W.cell? ⟨w.heap.size + 2, 0, none⟩ = some (.int .i64 c1) := (hbw.cell (p := ⟨w.heap.size + 2, 0, none⟩) (by simp; try omega)).trans (by go_simp)
      have cC1 : W.cell? ⟨w.heap.size + 2, 1, none⟩ = some (.int .i64 c2) := (hbw.cell (p := ⟨w.heap.size + 2, 1, none⟩) (by simp; try omega)).trans (by go_simp)
      have cC2 : W.cell? ⟨w.heap.size + 2, 2, none⟩ = some (.int .i64 c3) := (hbw.cell (p := ⟨w.heap.size + 2, 2, none⟩) (by simp; try omega)).trans (by go_simp)
      have cC3 : W.cell? ⟨w.heap.size + 2, 3, none⟩ = some (.int .i64 c4) := (hbw.cell (p := ⟨w.heap.size + 2, 3, none⟩) (by simp; try omega)).trans (by go_simp)
      have HBW := Lib.hid hBW
      clear hbw hBW
      go_wp2
      have nA0 := fun p : NewBy W => NewBy.cell (o := 0) (by omega) cA0 p
      have nA1 := fun p : NewBy W => NewBy.cell (o := 1) (by omega) cA1 p
      have nA2 := fun p : NewBy W => NewBy.cell (o := 2) (by omega) cA2 p
      have nA3 := fun p : NewBy W => NewBy.cell (o := 3) (by omega) cA3 p
      have nB0 := fun p : NewBy W => NewBy.cell (o := 0) (by omega) cB0 p
      have nB1 := fun p : NewBy W => NewBy.cell (o := 1) (by omega) cB1 p
      have nB2 := fun p : NewBy W => NewBy.cell (o := 2) (by omega) cB2 p
      have nB3 := fun p : NewBy W => NewBy.cell (o := 3) (by omega) cB3 p
      refine wp_region_new (by kernel_rfl) (by kernel_rfl) ?_
      repeat (go_big_quiet_step (first | (go_at_call 28; exact Calls.new_of (less_any _ _ _ _ _ _ _ _ _)) | (go_at_call 30; exact Calls.new_of (lless_any _ _ _ _ _ _ _ _ _)) | (go_at_call 29; exact Calls.new_of (awake2 _))))
      refine wpQuiet_nil ?_
      intro wz hz
      obtain ⟨pz, hz⟩ := hz
      subst hz
      go_wp2
      go_ret
      exact ⟨rfl, HBW.out.trans (pz.below.mono HBW.out.size)⟩

set_option maxHeartbeats 40000000 in
theorem less_near (hm : (near % 2 == 1) = true) (hm2 : (near % 8 == 7) = false) :
    Calls Try.prog 12 #[.agg #[.int .i64 a1, .int .i64 a2, .int .i64 a3, .int .i64 a4], .agg #[.int .i64 b1, .int .i64 b2, .int .i64 b3, .int .i64 b4], .agg #[.int .i64 c1, .int .i64 c2, .int .i64 c3, .int .i64 c4], .int .u8 near] w fun e w' => e = .returned (.bool true) ∧ Below w.heap.size w w' := by
  by_cases he : a3 = b3
  · subst he
    by_cases he : a4 = b4
    · subst he
      have haa := klt_irrefl (a1, a2, a3, a4)
      go_enter Try.func12, Try.ntmps12
      go_wp2_with fail
      refine (less_any _ _ _ _ _ _ _ _ _).mono ?_
      rintro e W ⟨rfl, hbw⟩
      have hs0 : w.heap.size + 2 < W.heap.size := by have := hbw.size; simp at this; omega
      have hBW : Below w.heap.size w W := (below_three _ _ _).trans (hbw.mono (by simp; omega))
      have cA0 : W.cell? ⟨w.heap.size, 0, none⟩ = some (.int .i64 a1) := (hbw.cell (p := ⟨w.heap.size, 0, none⟩) (by simp; try omega)).trans (by go_simp)
      have cA1 : W.cell? ⟨w.heap.size, 1, none⟩ = some (.int .i64 a2) := (hbw.cell (p := ⟨w.heap.size, 1, none⟩) (by simp; try omega)).trans (by go_simp)
      have cA2 : W.cell? ⟨w.heap.size, 2, none⟩ = some (.int .i64 a3) := (hbw.cell (p := ⟨w.heap.size, 2, none⟩) (by simp; try omega)).trans (by go_simp)
      have cA3 : W.cell? ⟨w.heap.size, 3, none⟩ = some (.int .i64 a4) := (hbw.cell (p := ⟨w.heap.size, 3, none⟩) (by simp; try omega)).trans (by go_simp)
      have cB0 : W.cell? ⟨w.heap.size + 1, 0, none⟩ = some (.int .i64 a1) := (hbw.cell (p := ⟨w.heap.size + 1, 0, none⟩) (by simp; try omega)).trans (by go_simp)
      have cB1 : W.cell? ⟨w.heap.size + 1, 1, none⟩ = some (.int .i64 a2) := (hbw.cell (p := ⟨w.heap.size + 1, 1, none⟩) (by simp; try omega)).trans (by go_simp)
      have cB2 : W.cell? ⟨w.heap.size + 1, 2, none⟩ = some (.int .i64 a3) := (hbw.cell (p := ⟨w.heap.size + 1, 2, none⟩) (by simp; try omega)).trans (by go_simp)
      have cB3 : W.cell? ⟨w.heap.size + 1, 3, none⟩ = some (.int .i64 a4) := (hbw.cell (p := ⟨w.heap.size + 1, 3, none⟩) (by simp; try omega)).trans (by go_simp)
      have cC0 : W.cell? ⟨w.heap.size + 2, 0, none⟩ = some (.int .i64 a1) := (hbw.cell (p := ⟨w.heap.size + 2, 0, none⟩) (by simp; try omega)).trans (by go_simp)
      have cC1 : W.cell? ⟨w.heap.size + 2, 1, none⟩ = some (.int .i64 c2) := (hbw.cell (p := ⟨w.heap.size + 2, 1, none⟩) (by simp; try omega)).trans (by go_simp)
      have cC2 : W.cell? ⟨w.heap.size + 2, 2, none⟩ = some (.int .i64 c3) := (hbw.cell (p := ⟨w.heap.size + 2, 2, none⟩) (by simp; try omega)).trans (by go_simp)
      have cC3 : W.cell? ⟨w.heap.size + 2, 3, none⟩ = some (.int .i64 c4) := (hbw.cell (p := ⟨w.heap.size + 2, 3, none⟩) (by simp; try omega)).trans (by go_simp)
      have HBW := Lib.hid hBW
      clear hbw hBW
      go_wp2
      have nA0 := fun p : NewBy W => NewBy.cell (o := 0) (by omega) cA0 p
      have nA1 := fun p : NewBy W => NewBy.cell (o := 1) (by omega) cA1 p
      have nA2 := fun p : NewBy W => NewBy.cell (o := 2) (by omega) cA2 p
      have nA3 := fun p : NewBy W => NewBy.cell (o := 3) (by omega) cA3 p
      have nB0 := fun p : NewBy W => NewBy.cell (o := 0) (by omega) cB0 p
      have nB1 := fun p : NewBy W => NewBy.cell (o := 1) (by omega) cB1 p
      have nB2 := fun p : NewBy W => NewBy.cell (o := 2) (by omega) cB2 p
      have nB3 := fun p : NewBy W => NewBy.cell (o := 3) (by omega) cB3 p
      refine wp_region_new (by kernel_rfl) (by kernel_rfl) ?_
      repeat (go_big_quiet_step (first | (go_at_call 28; exact Calls.new_of (less_any _ _ _ _ _ _ _ _ _)) | (go_at_call 30; exact Calls.new_of (lless_any _ _ _ _ _ _ _ _ _)) | (go_at_call 29; exact Calls.new_of (awake2 _))))
      refine wpQuiet_nil ?_
      intro wz hz
      obtain ⟨pz, hz⟩ := hz
      subst hz
      go_wp2
      go_ret
      exact ⟨rfl, HBW.out.trans (pz.below.mono HBW.out.size)⟩

    · have haa := klt_irrefl (a1, a2, a3, a4)
      have hne : (a1, a2, a3, a4) ≠ (a1, a2, a3, b4) := by intro h; simp at h; omega
      cases hab : klt (a1, a2, a3, a4) (a1, a2, a3, b4) with
      | true =>
        cases hbc : klt (a1, a2, a3, b4) (a1, c2, c3, c4) with
        | true =>
          have hac := klt_trans hab hbc
          clear hne
          go_enter Try.func12, Try.ntmps12
          go_wp2_with fail
          refine (less_any _ _ _ _ _ _ _ _ _).mono ?_
          rintro e W ⟨rfl, hbw⟩
          have hs0 : w.heap.size + 2 < W.heap.size := by have := hbw.size; simp at this; omega
          have hBW : Below w.heap.size w W := (below_three _ _ _).trans (hbw.mono (by simp; omega))
          have cA0 : W.cell? ⟨w.heap.size, 0, none⟩ = some (.int .i64 a1) := (hbw.cell (p := ⟨w.heap.size, 0, none⟩) (by simp; try omega)).trans (by go_simp)
          have cA1 : W.cell? ⟨w.heap.size, 1, none⟩ = some (.int .i64 a2) := (hbw.cell (p := ⟨w.heap.size, 1, none⟩) (by simp; try omega)).trans (by go_simp)
          have cA2 : W.cell? ⟨w.heap.size, 2, none⟩ = some (.int .i64 a3) := (hbw.cell (p := ⟨w.heap.size, 2, none⟩) (by simp; try omega)).trans (by go_simp)
          have cA3 : W.cell? ⟨w.heap.size, 3, none⟩ = some (.int .i64 a4) := (hbw.cell (p := ⟨w.heap.size, 3, none⟩) (by simp; try omega)).trans (by go_simp)
          have cB0 : W.cell? ⟨w.heap.size + 1, 0, none⟩ = some (.int .i64 a1) := (hbw.cell (p := ⟨w.heap.size + 1, 0, none⟩) (by simp; try omega)).trans (by go_simp)
          have cB1 : W.cell? ⟨w.heap.size + 1, 1, none⟩ = some (.int .i64 a2) := (hbw.cell (p := ⟨w.heap.size + 1, 1, none⟩) (by simp; try omega)).trans (by go_simp)
          have cB2 : W.cell? ⟨w.heap.size + 1, 2, none⟩ = some (.int .i64 a3) := (hbw.cell (p := ⟨w.heap.size + 1, 2, none⟩) (by simp; try omega)).trans (by go_simp)
          have cB3 : W.cell? ⟨w.heap.size + 1, 3, none⟩ = some (.int .i64 b4) := (hbw.cell (p := ⟨w.heap.size + 1, 3, none⟩) (by simp; try omega)).trans (by go_simp)
          have cC0 : W.cell? ⟨w.heap.size + 2, 0, none⟩ = some (.int .i64 a1) := (hbw.cell (p := ⟨w.heap.size + 2, 0, none⟩) (by simp; try omega)).trans (by go_simp)
          have cC1 : W.cell? ⟨w.heap.size + 2, 1, none⟩ = some (.int .i64 c2) := (hbw.cell (p := ⟨w.heap.size + 2, 1, none⟩) (by simp; try omega)).trans (by go_simp)
          have cC2 : W.cell? ⟨w.heap.size + 2, 2, none⟩ = some (.int .i64 c3) := (hbw.cell (p := ⟨w.heap.size + 2, 2, none⟩) (by simp; try omega)).trans (by go_simp)
          have cC3 : W.cell? ⟨w.heap.size + 2, 3, none⟩ = some (.int .i64 c4) := (hbw.cell (p := ⟨w.heap.size + 2, 3, none⟩) (by simp; try omega)).trans (by go_simp)
          have HBW := Lib.hid hBW
          clear hbw hBW
          go_wp2_with fail
          refine (less_any _ _ _ _ _ _ _ _ _).mono ?_
          rintro e W2 ⟨rfl, hbw⟩
          have hs2 : w.heap.size + 2 < W2.heap.size := by have := hbw.size; omega
          have hBW2 := Lib.hid (HBW.out.trans (hbw.mono HBW.out.size))
          replace cA0 := (hbw.cell (p := ⟨w.heap.size, 0, none⟩) (by simp; try omega)).trans cA0
          replace cA1 := (hbw.cell (p := ⟨w.heap.size, 1, none⟩) (by simp; try omega)).trans cA1
          replace cA2 := (hbw.cell (p := ⟨w.heap.size, 2, none⟩) (by simp; try omega)).trans cA2
          replace cA3 := (hbw.cell (p := ⟨w.heap.size, 3, none⟩) (by simp; try omega)).trans cA3
          replace cB0 := (hbw.cell (p := ⟨w.heap.size + 1, 0, none⟩) (by simp; try omega)).trans cB0
          replace cB1 := (hbw.cell (p := ⟨w.heap.size + 1, 1, none⟩) (by simp; try omega)).trans cB1
          replace cB2 := (hbw.cell (p := ⟨w.heap.size + 1, 2, none⟩) (by simp; try omega)).trans cB2
          replace cB3 := (hbw.cell (p := ⟨w.heap.size + 1, 3, none⟩) (by simp; try omega)).trans cB3
          replace cC0 := (hbw.cell (p := ⟨w.heap.size + 2, 0, none⟩) (by simp; try omega)).trans cC0
          replace cC1 := (hbw.cell (p := ⟨w.heap.size + 2, 1, none⟩) (by simp; try omega)).trans cC1
          replace cC2 := (hbw.cell (p := ⟨w.heap.size + 2, 2, none⟩) (by simp; try omega)).trans cC2
          replace cC3 := (hbw.cell (p := ⟨w.heap.size + 2, 3, none⟩) (by simp; try omega)).trans cC3
          clear hbw hs0
          go_wp2_with fail
          refine (less_any _ _ _ _ _ _ _ _ _).mono ?_
          rintro e W3 ⟨rfl, hbw⟩
          have hs3 : w.heap.size + 2 < W3.heap.size := by have := hbw.size; omega
          have hBW3 := Lib.hid (hBW2.out.trans (hbw.mono hBW2.out.size))
          replace cA0 := (hbw.cell (p := ⟨w.heap.size, 0, none⟩) (by simp; try omega)).trans cA0
          replace cA1 := (hbw.cell (p := ⟨w.heap.size, 1, none⟩) (by simp; try omega)).trans cA1
          replace cA2 := (hbw.cell (p := ⟨w.heap.size, 2, none⟩) (by simp; try omega)).trans cA2
          replace cA3 := (hbw.cell (p := ⟨w.heap.size, 3, none⟩) (by simp; try omega)).trans cA3
          replace cB0 := (hbw.cell (p := ⟨w.heap.size + 1, 0, none⟩) (by simp; try omega)).trans cB0
          replace cB1 := (hbw.cell (p := ⟨w.heap.size + 1, 1, none⟩) (by simp; try omega)).trans cB1
          replace cB2 := (hbw.cell (p := ⟨w.heap.size + 1, 2, none⟩) (by simp; try omega)).trans cB2
          replace cB3 := (hbw.cell (p := ⟨w.heap.size + 1, 3, none⟩) (by simp; try omega)).trans cB3
          replace cC0 := (hbw.cell (p := ⟨w.heap.size + 2, 0, none⟩) (by simp; try omega)).trans cC0
          replace cC1 := (hbw.cell (p := ⟨w.heap.size + 2, 1, none⟩) (by simp; try omega)).trans cC1
          replace cC2 := (hbw.cell (p := ⟨w.heap.size + 2, 2, none⟩) (by simp; try omega)).trans cC2
          replace cC3 := (hbw.cell (p := ⟨w.heap.size + 2, 3, none⟩) (by simp; try omega)).trans cC3
          clear hbw hs2
          go_wp2
          have nA0 := fun p : NewBy W3 => NewBy.cell (o := 0) (by omega) cA0 p
          have nA1 := fun p : NewBy W3 => NewBy.cell (o := 1) (by omega) cA1 p
          have nA2 := fun p : NewBy W3 => NewBy.cell (o := 2) (by omega) cA2 p
          have nA3 := fun p : NewBy W3 => NewBy.cell (o := 3) (by omega) cA3 p
          have nB0 := fun p : NewBy W3 => NewBy.cell (o := 0) (by omega) cB0 p
          have nB1 := fun p : NewBy W3 => NewBy.cell (o := 1) (by omega) cB1 p
          have nB2 := fun p : NewBy W3 => NewBy.cell (o := 2) (by omega) cB2 p
          have nB3 := fun p : NewBy W3 => NewBy.cell (o := 3) (by omega) cB3 p
          refine wp_region_new (by kernel_rfl) (by kernel_rfl) ?_
          repeat (go_big_quiet_step (first | (go_at_call 28; exact Calls.new_of (less_any _ _ _ _ _ _ _ _ _)) | (go_at_call 30; exact Calls.new_of (lless_any _ _ _ _ _ _ _ _ _)) | (go_at_call 29; exact Calls.new_of (awake2 _))))
          refine wpQuiet_nil ?_
          intro wz hz
          obtain ⟨pz, hz⟩ := hz
          subst hz
          go_wp2
          go_ret
          exact ⟨rfl, hBW3.out.trans (pz.below.mono hBW3.out.size)⟩

        | false =>
          clear hne
          go_enter Try.func12, Try.ntmps12
          go_wp2_with fail
          refine (less_any _ _ _ _ _ _ _ _ _).mono ?_
          rintro e W ⟨rfl, hbw⟩
          have hs0 : w.heap.size + 2 < W.heap.size := by have := hbw.size; simp at this; omega
          have hBW : Below w.heap.size w W := (below_three _ _ _).trans (hbw.mono (by simp; omega))
          have cA0 : W.cell? ⟨w.heap.size, 0, none⟩ = some (.int .i64 a1) := (hbw.cell (p := ⟨w.heap.size, 0, none⟩) (by simp; try omega)).trans (by go_simp)
          have cA1 : W.cell? ⟨w.heap.size, 1, none⟩ = some (.int .i64 a2) := (hbw.cell (p := ⟨w.heap.size, 1, none⟩) (by simp; try omega)).trans (by go_simp)
          have cA2 : W.cell? ⟨w.heap.size, 2, none⟩ = some (.int .i64 a3) := (hbw.cell (p := ⟨w.heap.size, 2, none⟩) (by simp; try omega)).trans (by go_simp)
          have cA3 : W.cell? ⟨w.heap.size, 3, none⟩ = some (.int .i64 a4) := (hbw.cell (p := ⟨w.heap.size, 3, none⟩) (by simp; try omega)).trans (by go_simp)
          have cB0 : W.cell? ⟨w.heap.size + 1, 0, none⟩ = some (.int .i64 a1) := (hbw.cell (p := ⟨w.heap.size + 1, 0, none⟩) (by simp; try omega)).trans (by go_simp)
          have cB1 : W.cell? ⟨w.heap.size + 1, 1, none⟩ = some (.int .i64 a2) := (hbw.cell (p := ⟨w.heap.size + 1, 1, none⟩) (by simp; try omega)).trans (by go_simp)
          have cB2 : W.cell? ⟨w.heap.size + 1, 2, none⟩ = some (.int .i64 a3) := (hbw.cell (p := ⟨w.heap.size + 1, 2, none⟩) (by simp; try omega)).trans (by go_simp)
          have cB3 : W.cell? ⟨w.heap.size + 1, 3, none⟩ = some (.int .i64 b4) := (hbw.cell (p := ⟨w.heap.size + 1, 3, none⟩) (by simp; try omega)).trans (by go_simp)
          have cC0 : W.cell? ⟨w.heap.size + 2, 0, none⟩ = some (.int .i64 a1) := (hbw.cell (p := ⟨w.heap.size + 2, 0, none⟩) (by simp; try omega)).trans (by go_simp)
          have cC1 : W.cell? ⟨w.heap.size + 2, 1, none⟩ = some (.int .i64 c2) := (hbw.cell (p := ⟨w.heap.size + 2, 1, none⟩) (by simp; try omega)).trans (by go_simp)
          have cC2 : W.cell? ⟨w.heap.size + 2, 2, none⟩ = some (.int .i64 c3) := (hbw.cell (p := ⟨w.heap.size + 2, 2, none⟩) (by simp; try omega)).trans (by go_simp)
          have cC3 : W.cell? ⟨w.heap.size + 2, 3, none⟩ = some (.int .i64 c4) := (hbw.cell (p := ⟨w.heap.size + 2, 3, none⟩) (by simp; try omega)).trans (by go_simp)
          have HBW := Lib.hid hBW
          clear hbw hBW
          go_wp2_with fail
          refine (less_any _ _ _ _ _ _ _ _ _).mono ?_
          rintro e W2 ⟨rfl, hbw⟩
          have hs2 : w.heap.size + 2 < W2.heap.size := by have := hbw.size; omega
          have hBW2 := Lib.hid (HBW.out.trans (hbw.mono HBW.out.size))
          replace cA0 := (hbw.cell (p := ⟨w.heap.size, 0, none⟩) (by simp; try omega)).trans cA0
          replace cA1 := (hbw.cell (p := ⟨w.heap.size, 1, none⟩) (by simp; try omega)).trans cA1
          replace cA2 := (hbw.cell (p := ⟨w.heap.size, 2, none⟩) (by simp; try omega)).trans cA2
          replace cA3 := (hbw.cell (p := ⟨w.heap.size, 3, none⟩) (by simp; try omega)).trans cA3
          replace cB0 := (hbw.cell (p := ⟨w.heap.size + 1, 0, none⟩) (by simp; try omega)).trans cB0
          replace cB1 := (hbw.cell (p := ⟨w.heap.size + 1, 1, none⟩) (by simp; try omega)).trans cB1
          replace cB2 := (hbw.cell (p := ⟨w.heap.size + 1, 2, none⟩) (by simp; try omega)).trans cB2
          replace cB3 := (hbw.cell (p := ⟨w.heap.size + 1, 3, none⟩) (by simp; try omega)).trans cB3
          replace cC0 := (hbw.cell (p := ⟨w.heap.size + 2, 0, none⟩) (by simp; try omega)).trans cC0
          replace cC1 := (hbw.cell (p := ⟨w.heap.size + 2, 1, none⟩) (by simp; try omega)).trans cC1
          replace cC2 := (hbw.cell (p := ⟨w.heap.size + 2, 2, none⟩) (by simp; try omega)).trans cC2
          replace cC3 := (hbw.cell (p := ⟨w.heap.size + 2, 3, none⟩) (by simp; try omega)).trans cC3
          clear hbw hs0
          go_wp2
          have nA0 := fun p : NewBy W2 => NewBy.cell (o := 0) (by omega) cA0 p
          have nA1 := fun p : NewBy W2 => NewBy.cell (o := 1) (by omega) cA1 p
          have nA2 := fun p : NewBy W2 => NewBy.cell (o := 2) (by omega) cA2 p
          have nA3 := fun p : NewBy W2 => NewBy.cell (o := 3) (by omega) cA3 p
          have nB0 := fun p : NewBy W2 => NewBy.cell (o := 0) (by omega) cB0 p
          have nB1 := fun p : NewBy W2 => NewBy.cell (o := 1) (by omega) cB1 p
          have nB2 := fun p : NewBy W2 => NewBy.cell (o := 2) (by omega) cB2 p
          have nB3 := fun p : NewBy W2 => NewBy.cell (o := 3) (by omega) cB3 p
          refine wp_region_new (by kernel_rfl) (by kernel_rfl) ?_
          repeat (go_big_quiet_step (first | (go_at_call 28; exact Calls.new_of (less_any _ _ _ _ _ _ _ _ _)) | (go_at_call 30; exact Calls.new_of (lless_any _ _ _ _ _ _ _ _ _)) | (go_at_call 29; exact Calls.new_of (awake2 _))))
          refine wpQuiet_nil ?_
          intro wz hz
          obtain ⟨pz, hz⟩ := hz
          subst hz
          go_wp2
          go_ret
          exact ⟨rfl, hBW2.out.trans (pz.below.mono hBW2.out.size)⟩

      | false =>
        have hba : klt (a1, a2, a3, b4) (a1, a2, a3, a4) = true := by
          cases h : klt (a1, a2, a3, b4) (a1, a2, a3, a4) with
          | true => rfl
          | false => exact absurd (klt_total hab h) hne
        clear hne
        go_enter Try.func12, Try.ntmps12
        go_wp2_with fail
        refine (less_any _ _ _ _ _ _ _ _ _).mono ?_
        rintro e W ⟨rfl, hbw⟩
        have hs0 : w.heap.size + 2 < W.heap.size := by have := hbw.size; simp at this; omega
        have hBW : Below w.heap.size w W := (below_three _ _ _).trans (hbw.mono (by simp; omega))
        have cA0 : W.cell? ⟨w.heap.size, 0, none⟩ = some (.int .i64 a1) := (hbw.cell (p := ⟨w.heap.size, 0, none⟩) (by simp; try omega)).trans (by go_simp)
        have cA1 : W.cell? ⟨w.heap.size, 1, none⟩ = some (.int .i64 a2) := (hbw.cell (p := ⟨w.heap.size, 1, none⟩) (by simp; try omega)).trans (by go_simp)
        have cA2 : W.cell? ⟨w.heap.size, 2, none⟩ = some (.int .i64 a3) := (hbw.cell (p := ⟨w.heap.size, 2, none⟩) (by simp; try omega)).trans (by go_simp)
        have cA3 : W.cell? ⟨w.heap.size, 3, none⟩ = some (.int .i64 a4) := (hbw.cell (p := ⟨w.heap.size, 3, none⟩) (by simp; try omega)).trans (by go_simp)
        have cB0 : W.cell? ⟨w.heap.size + 1, 0, none⟩ = some (.int .i64 a1) := (hbw.cell (p := ⟨w.heap.size + 1, 0, none⟩) (by simp; try omega)).trans (by go_simp)
        have cB1 : W.cell? ⟨w.heap.size + 1, 1, none⟩ = some (.int .i64 a2) := (hbw.cell (p := ⟨w.heap.size + 1, 1, none⟩) (by simp; try omega)).trans (by go_simp)
        have cB2 : W.cell? ⟨w.heap.size + 1, 2, none⟩ = some (.int .i64 a3) := (hbw.cell (p := ⟨w.heap.size + 1, 2, none⟩) (by simp; try omega)).trans (by go_simp)
        have cB3 : W.cell? ⟨w.heap.size + 1, 3, none⟩ = some (.int .i64 b4) := (hbw.cell (p := ⟨w.heap.size + 1, 3, none⟩) (by simp; try omega)).trans (by go_simp)
        have cC0 : W.cell? ⟨w.heap.size + 2, 0, none⟩ = some (.int .i64 a1) := (hbw.cell (p := ⟨w.heap.size + 2, 0, none⟩) (by simp; try omega)).trans (by go_simp)
        have cC1 : W.cell? ⟨w.heap.size + 2, 1, none⟩ = some (.int .i64 c2) := (hbw.cell (p := ⟨w.heap.size + 2, 1, none⟩) (by simp; try omega)).trans (by go_simp)
        have cC2 : W.cell? ⟨w.heap.size + 2, 2, none⟩ = some (.int .i64 c3) := (hbw.cell (p := ⟨w.heap.size + 2, 2, none⟩) (by simp; try omega)).trans (by go_simp)
        have cC3 : W.cell? ⟨w.heap.size + 2, 3, none⟩ = some (.int .i64 c4) := (hbw.cell (p := ⟨w.heap.size + 2, 3, none⟩) (by simp; try omega)).trans (by go_simp)
        have HBW := Lib.hid hBW
        clear hbw hBW
        go_wp2
        have nA0 := fun p : NewBy W => NewBy.cell (o := 0) (by omega) cA0 p
        have nA1 := fun p : NewBy W => NewBy.cell (o := 1) (by omega) cA1 p
        have nA2 := fun p : NewBy W => NewBy.cell (o := 2) (by omega) cA2 p
        have nA3 := fun p : NewBy W => NewBy.cell (o := 3) (by omega) cA3 p
        have nB0 := fun p : NewBy W => NewBy.cell (o := 0) (by omega) cB0 p
        have nB1 := fun p : NewBy W => NewBy.cell (o := 1) (by omega) cB1 p
        have nB2 := fun p : NewBy W => NewBy.cell (o := 2) (by omega) cB2 p
        have nB3 := fun p : NewBy W => NewBy.cell (o := 3) (by omega) cB3 p
        refine wp_region_new (by kernel_rfl) (by kernel_rfl) ?_
        repeat (go_big_quiet_step (first | (go_at_call 28; exact Calls.new_of (less_any _ _ _ _ _ _ _ _ _)) | (go_at_call 30; exact Calls.new_of (lless_any _ _ _ _ _ _ _ _ _)) | (go_at_call 29; exact Calls.new_of (awake2 _))))
        refine wpQuiet_nil ?_
        intro wz hz
        obtain ⟨pz, hz⟩ := hz
        subst hz
        go_wp2
        go_ret
        exact ⟨rfl, HBW.out.trans (pz.below.mono HBW.out.size)⟩

  · have haa := klt_irrefl (a1, a2, a3, a4)
    have hne : (a1, a2, a3, a4) ≠ (a1, a2, b3, b4) := by intro h; simp at h; omega
    cases hab : klt (a1, a2, a3, a4) (a1, a2, b3, b4) with
    | true =>
      cases hbc : klt (a1, a2, b3, b4) (a1, c2, c3, c4) with
      | true =>
        have hac := klt_trans hab hbc
        clear hne
        go_enter Try.func12, Try.ntmps12
        go_wp2_with fail
        refine (less_any _ _ _ _ _ _ _ _ _).mono ?_
        rintro e W ⟨rfl, hbw⟩
        have hs0 : w.heap.size + 2 < W.heap.size := by have := hbw.size; simp at this; omega
        have hBW : Below w.heap.size w W := (below_three _ _ _).trans (hbw.mono (by simp; omega))
        have cA0 : W.cell? ⟨w.heap.size, 0, none⟩ = some (.int .i64 a1) := (hbw.cell (p := ⟨w.heap.size, 0, none⟩) (by simp; try omega)).trans (by go_simp)
        have cA1 : W.cell? ⟨w.heap.size, 1, none⟩ = some (.int .i64 a2) := (hbw.cell (p := ⟨w.heap.size, 1, none⟩) (by simp; try omega)).trans (by go_simp)
        have cA2 : W.cell? ⟨w.heap.size, 2, none⟩ = some (.int .i64 a3) := (hbw.cell (p := ⟨w.heap.size, 2, none⟩) (by simp; try omega)).trans (by go_simp)
        have cA3 : W.cell? ⟨w.heap.size, 3, none⟩ = some (.int .i64 a4) := (hbw.cell (p := ⟨w.heap.size, 3, none⟩) (by simp; try omega)).trans (by go_simp)
        have cB0 : W.cell? ⟨w.heap.size + 1, 0, none⟩ = some (.int .i64 a1) := (hbw.cell (p := ⟨w.heap.size + 1, 0, none⟩) (by simp; try omega)).trans (by go_simp)
        have cB1 : W.cell? ⟨w.heap.size + 1, 1, none⟩ = some (.int .i64 a2) := (hbw.cell (p := ⟨w.heap.size + 1, 1, none⟩) (by simp; try omega)).trans (by go_simp)
        have cB2 : W.cell? ⟨w.heap.size + 1, 2, none⟩ = some (.int .i64 b3) := (hbw.cell (p := ⟨w.heap.size + 1, 2, none⟩) (by simp; try omega)).trans (by go_simp)
        have cB3 : W.cell? ⟨w.heap.size + 1, 3, none⟩ = some (.int .i64 b4) := (hbw.cell (p := ⟨w.heap.size + 1, 3, none⟩) (by simp; try omega)).trans (by go_simp)
        have cC0 : W.cell? ⟨w.heap.size + 2, 0, none⟩ = some (.int .i64 a1) := (hbw.cell (p := ⟨w.heap.size + 2, 0, none⟩) (by simp; try omega)).trans (by go_simp)
        have cC1 : W.cell? ⟨w.heap.size + 2, 1, none⟩ = some (.int .i64 c2) := (hbw.cell (p := ⟨w.heap.size + 2, 1, none⟩) (by simp; try omega)).trans (by go_simp)
        have cC2 : W.cell? ⟨w.heap.size + 2, 2, none⟩ = some (.int .i64 c3) := (hbw.cell (p := ⟨w.heap.size + 2, 2, none⟩) (by simp; try omega)).trans (by go_simp)
        have cC3 : W.cell? ⟨w.heap.size + 2, 3, none⟩ = some (.int .i64 c4) := (hbw.cell (p := ⟨w.heap.size + 2, 3, none⟩) (by simp; try omega)).trans (by go_simp)
        have HBW := Lib.hid hBW
        clear hbw hBW
        go_wp2_with fail
        refine (less_any _ _ _ _ _ _ _ _ _).mono ?_
        rintro e W2 ⟨rfl, hbw⟩
        have hs2 : w.heap.size + 2 < W2.heap.size := by have := hbw.size; omega
        have hBW2 := Lib.hid (HBW.out.trans (hbw.mono HBW.out.size))
        replace cA0 := (hbw.cell (p := ⟨w.heap.size, 0, none⟩) (by simp; try omega)).trans cA0
        replace cA1 := (hbw.cell (p := ⟨w.heap.size, 1, none⟩) (by simp; try omega)).trans cA1
        replace cA2 := (hbw.cell (p := ⟨w.heap.size, 2, none⟩) (by simp; try omega)).trans cA2
        replace cA3 := (hbw.cell (p := ⟨w.heap.size, 3, none⟩) (by simp; try omega)).trans cA3
        replace cB0 := (hbw.cell (p := ⟨w.heap.size + 1, 0, none⟩) (by simp; try omega)).trans cB0
        replace cB1 := (hbw.cell (p := ⟨w.heap.size + 1, 1, none⟩) (by simp; try omega)).trans cB1
        replace cB2 := (hbw.cell (p := ⟨w.heap.size + 1, 2, none⟩) (by simp; try omega)).trans cB2
        replace cB3 := (hbw.cell (p := ⟨w.heap.size + 1, 3, none⟩) (by simp; try omega)).trans cB3
        replace cC0 := (hbw.cell (p := ⟨w.heap.size + 2, 0, none⟩) (by simp; try omega)).trans cC0
        replace cC1 := (hbw.cell (p := ⟨w.heap.size + 2, 1, none⟩) (by simp; try omega)).trans cC1
        replace cC2 := (hbw.cell (p := ⟨w.heap.size + 2, 2, none⟩) (by simp; try omega)).trans cC2
        replace cC3 := (hbw.cell (p := ⟨w.heap.size + 2, 3, none⟩) (by simp; try omega)).trans cC3
        clear hbw hs0
        go_wp2_with fail
        refine (less_any _ _ _ _ _ _ _ _ _).mono ?_
        rintro e W3 ⟨rfl, hbw⟩
        have hs3 : w.heap.size + 2 < W3.heap.size := by have := hbw.size; omega
        have hBW3 := Lib.hid (hBW2.out.trans (hbw.mono hBW2.out.size))
        replace cA0 := (hbw.cell (p := ⟨w.heap.size, 0, none⟩) (by simp; try omega)).trans cA0
        replace cA1 := (hbw.cell (p := ⟨w.heap.size, 1, none⟩) (by simp; try omega)).trans cA1
        replace cA2 := (hbw.cell (p := ⟨w.heap.size, 2, none⟩) (by simp; try omega)).trans cA2
        replace cA3 := (hbw.cell (p := ⟨w.heap.size, 3, none⟩) (by simp; try omega)).trans cA3
        replace cB0 := (hbw.cell (p := ⟨w.heap.size + 1, 0, none⟩) (by simp; try omega)).trans cB0
        replace cB1 := (hbw.cell (p := ⟨w.heap.size + 1, 1, none⟩) (by simp; try omega)).trans cB1
        replace cB2 := (hbw.cell (p := ⟨w.heap.size + 1, 2, none⟩) (by simp; try omega)).trans cB2
        replace cB3 := (hbw.cell (p := ⟨w.heap.size + 1, 3, none⟩) (by simp; try omega)).trans cB3
        replace cC0 := (hbw.cell (p := ⟨w.heap.size + 2, 0, none⟩) (by simp; try omega)).trans cC0
        replace cC1 := (hbw.cell (p := ⟨w.heap.size + 2, 1, none⟩) (by simp; try omega)).trans cC1
        replace cC2 := (hbw.cell (p := ⟨w.heap.size + 2, 2, none⟩) (by simp; try omega)).trans cC2
        replace cC3 := (hbw.cell (p := ⟨w.heap.size + 2, 3, none⟩) (by simp; try omega)).trans cC3
        clear hbw hs2
        go_wp2
        have nA0 := fun p : NewBy W3 => NewBy.cell (o := 0) (by omega) cA0 p
        have nA1 := fun p : NewBy W3 => NewBy.cell (o := 1) (by omega) cA1 p
        have nA2 := fun p : NewBy W3 => NewBy.cell (o := 2) (by omega) cA2 p
        have nA3 := fun p : NewBy W3 => NewBy.cell (o := 3) (by omega) cA3 p
        have nB0 := fun p : NewBy W3 => NewBy.cell (o := 0) (by omega) cB0 p
        have nB1 := fun p : NewBy W3 => NewBy.cell (o := 1) (by omega) cB1 p
        have nB2 := fun p : NewBy W3 => NewBy.cell (o := 2) (by omega) cB2 p
        have nB3 := fun p : NewBy W3 => NewBy.cell (o := 3) (by omega) cB3 p
        refine wp_region_new (by kernel_rfl) (by kernel_rfl) ?_
        repeat (go_big_quiet_step (first | (go_at_call 28; exact Calls.new_of (less_any _ _ _ _ _ _ _ _ _)) | (go_at_call 30; exact Calls.new_of (lless_any _ _ _ _ _ _ _ _ _)) | (go_at_call 29; exact Calls.new_of (awake2 _))))
        refine wpQuiet_nil ?_
        intro wz hz
        obtain ⟨pz, hz⟩ := hz
        subst hz
        go_wp2
        go_ret
        exact ⟨rfl, hBW3.out.trans (pz.below.mono hBW3.out.size)⟩

      | false =>
        clear hne
        go_enter Try.func12, Try.ntmps12
        go_wp2_with fail
        refine (less_any _ _ _ _ _ _ _ _ _).mono ?_
        rintro e W ⟨rfl, hbw⟩
        have hs0 : w.heap.size + 2 < W.heap.size := by have := hbw.size; simp at this; omega
        have hBW : Below w.heap.size w W := (below_three _ _ _).trans (hbw.mono (by simp; omega))
        have cA0 : W.cell? ⟨w.heap.size, 0, none⟩ = some (.int .i64 a1) := (hbw.cell (p := ⟨w.heap.size, 0, none⟩) (by simp; try omega)).trans (by go_simp)
        have cA1 : W.cell? ⟨w.heap.size, 1, none⟩ = some (.int .i64 a2) := (hbw.cell (p := ⟨w.heap.size, 1, none⟩) (by simp; try omega)).trans (by go_simp)
        have cA2 : W.cell? ⟨w.heap.size, 2, none⟩ = some (.int .i64 a3) := (hbw.cell (p := ⟨w.heap.size, 2, none⟩) (by simp; try omega)).trans (by go_simp)
        have cA3 : W.cell? ⟨w.heap.size, 3, none⟩ = some (.int .i64 a4) := (hbw.cell (p := ⟨w.heap.size, 3, none⟩) (by simp; try omega)).trans (by go_simp)
        have cB0 : W.cell? ⟨w.heap.size + 1, 0, none⟩ = some (.int .i64 a1) := (hbw.cell (p := ⟨w.heap.size + 1, 0, none⟩) (by simp; try omega)).trans (by go_simp)
        have cB1 : W.cell? ⟨w.heap.size + 1, 1, none⟩ = some (.int .i64 a2) := (hbw.cell (p := ⟨w.heap.size + 1, 1, none⟩) (by simp; try omega)).trans (by go_simp)
        have cB2 : W.cell? ⟨w.heap.size + 1, 2, none⟩ = some (.int .i64 b3) := (hbw.cell (p := ⟨w.heap.size + 1, 2, none⟩) (by simp; try omega)).trans (by go_simp)
        have cB3 : W.cell? ⟨w.heap.size + 1, 3, none⟩ = some (.int .i64 b4) := (hbw.cell (p := ⟨w.heap.size + 1, 3, none⟩) (by simp; try omega)).trans (by go_simp)
        have cC0 : W.cell? ⟨w.heap.size + 2, 0, none⟩ = some (.int .i64 a1) := (hbw.cell (p := ⟨w.heap.size + 2, 0, none⟩) (by simp; try omega)).trans (by go_simp)
        have cC1 : W.cell? ⟨w.heap.size + 2, 1, none⟩ = some (.int .i64 c2) := (hbw.cell (p := ⟨w.heap.size + 2, 1, none⟩) (by simp; try omega)).trans (by go_simp)
        have cC2 : W.cell? ⟨w.heap.size + 2, 2, none⟩ = some (.int .i64 c3) := (hbw.cell (p := ⟨w.heap.size + 2, 2, none⟩) (by simp; try omega)).trans (by go_simp)
        have cC3 : W.cell? ⟨w.heap.size + 2, 3, none⟩ = some (.int .i64 c4) := (hbw.cell (p := ⟨w.heap.size + 2, 3, none⟩) (by simp; try omega)).trans (by go_simp)
        have HBW := Lib.hid hBW
        clear hbw hBW
        go_wp2_with fail
        refine (less_any _ _ _ _ _ _ _ _ _).mono ?_
        rintro e W2 ⟨rfl, hbw⟩
        have hs2 : w.heap.size + 2 < W2.heap.size := by have := hbw.size; omega
        have hBW2 := Lib.hid (HBW.out.trans (hbw.mono HBW.out.size))
        replace cA0 := (hbw.cell (p := ⟨w.heap.size, 0, none⟩) (by simp; try omega)).trans cA0
        replace cA1 := (hbw.cell (p := ⟨w.heap.size, 1, none⟩) (by simp; try omega)).trans cA1
        replace cA2 := (hbw.cell (p := ⟨w.heap.size, 2, none⟩) (by simp; try omega)).trans cA2
        replace cA3 := (hbw.cell (p := ⟨w.heap.size, 3, none⟩) (by simp; try omega)).trans cA3
        replace cB0 := (hbw.cell (p := ⟨w.heap.size + 1, 0, none⟩) (by simp; try omega)).trans cB0
        replace cB1 := (hbw.cell (p := ⟨w.heap.size + 1, 1, none⟩) (by simp; try omega)).trans cB1
        replace cB2 := (hbw.cell (p := ⟨w.heap.size + 1, 2, none⟩) (by simp; try omega)).trans cB2
        replace cB3 := (hbw.cell (p := ⟨w.heap.size + 1, 3, none⟩) (by simp; try omega)).trans cB3
        replace cC0 := (hbw.cell (p := ⟨w.heap.size + 2, 0, none⟩) (by simp; try omega)).trans cC0
        replace cC1 := (hbw.cell (p := ⟨w.heap.size + 2, 1, none⟩) (by simp; try omega)).trans cC1
        replace cC2 := (hbw.cell (p := ⟨w.heap.size + 2, 2, none⟩) (by simp; try omega)).trans cC2
        replace cC3 := (hbw.cell (p := ⟨w.heap.size + 2, 3, none⟩) (by simp; try omega)).trans cC3
        clear hbw hs0
        go_wp2
        have nA0 := fun p : NewBy W2 => NewBy.cell (o := 0) (by omega) cA0 p
        have nA1 := fun p : NewBy W2 => NewBy.cell (o := 1) (by omega) cA1 p
        have nA2 := fun p : NewBy W2 => NewBy.cell (o := 2) (by omega) cA2 p
        have nA3 := fun p : NewBy W2 => NewBy.cell (o := 3) (by omega) cA3 p
        have nB0 := fun p : NewBy W2 => NewBy.cell (o := 0) (by omega) cB0 p
        have nB1 := fun p : NewBy W2 => NewBy.cell (o := 1) (by omega) cB1 p
        have nB2 := fun p : NewBy W2 => NewBy.cell (o := 2) (by omega) cB2 p
        have nB3 := fun p : NewBy W2 => NewBy.cell (o := 3) (by omega) cB3 p
        refine wp_region_new (by kernel_rfl) (by kernel_rfl) ?_
        repeat (go_big_quiet_step (first | (go_at_call 28; exact Calls.new_of (less_any _ _ _ _ _ _ _ _ _)) | (go_at_call 30; exact Calls.new_of (lless_any _ _ _ _ _ _ _ _ _)) | (go_at_call 29; exact Calls.new_of (awake2 _))))
        refine wpQuiet_nil ?_
        intro wz hz
        obtain ⟨pz, hz⟩ := hz
        subst hz
        go_wp2
        go_ret
        exact ⟨rfl, hBW2.out.trans (pz.below.mono hBW2.out.size)⟩

    | false =>
      have hba : klt (a1, a2, b3, b4) (a1, a2, a3, a4) = true := by
        cases h : klt (a1, a2, b3, b4) (a1, a2, a3, a4) with
        | true => rfl
        | false => exact absurd (klt_total hab h) hne
      clear hne
      go_enter Try.func12, Try.ntmps12
      go_wp2_with fail
      refine (less_any _ _ _ _ _ _ _ _ _).mono ?_
      rintro e W ⟨rfl, hbw⟩
      have hs0 : w.heap.size + 2 < W.heap.size := by have := hbw.size; simp at this; omega
      have hBW : Below w.heap.size w W := (below_three _ _ _).trans (hbw.mono (by simp; omega))
      have cA0 : W.cell? ⟨w.heap.size, 0, none⟩ = some (.int .i64 a1) := (hbw.cell (p := ⟨w.heap.size, 0, none⟩) (by simp; try omega)).trans (by go_simp)
      have cA1 : W.cell? ⟨w.heap.size, 1, none⟩ = some (.int .i64 a2) := (hbw.cell (p := ⟨w.heap.size, 1, none⟩) (by simp; try omega)).trans (by go_simp)
      have cA2 : W.cell? ⟨w.heap.size, 2, none⟩ = some (.int .i64 a3) := (hbw.cell (p := ⟨w.heap.size, 2, none⟩) (by simp; try omega)).trans (by go_simp)
      have cA3 : W.cell? ⟨w.heap.size, 3, none⟩ = some (.int .i64 a4) := (hbw.cell (p := ⟨w.heap.size, 3, none⟩) (by simp; try omega)).trans (by go_simp)
      have cB0 : W.cell? ⟨w.heap.size + 1, 0, none⟩ = some (.int .i64 a1) := (hbw.cell (p := ⟨w.heap.size + 1, 0, none⟩) (by simp; try omega)).trans (by go_simp)
      have cB1 : W.cell? ⟨w.heap.size + 1, 1, none⟩ = some (.int .i64 a2) := (hbw.cell (p := ⟨w.heap.size + 1, 1, none⟩) (by simp; try omega)).trans (by go_simp)
      have cB2 : W.cell? ⟨w.heap.size + 1, 2, none⟩ = some (.int .i64 b3) := (hbw.cell (p := ⟨w.heap.size + 1, 2, none⟩) (by simp; try omega)).trans (by go_simp)
      have cB3 : W.cell? ⟨w.heap.size + 1, 3, none⟩ = some (.int .i64 b4) := (hbw.cell (p := ⟨w.heap.size + 1, 3, none⟩) (by simp; try omega)).trans (by go_simp)
      have cC0 : W.cell? ⟨w.heap.size + 2, 0, none⟩ = some (.int .i64 a1) := (hbw.cell (p := ⟨w.heap.size + 2, 0, none⟩) (by simp; try omega)).trans (by go_simp)
      have cC1 : W.cell? ⟨w.heap.size + 2, 1, none⟩ = some (.int .i64 c2) := (hbw.cell (p := ⟨w.heap.size + 2, 1, none⟩) (by simp; try omega)).trans (by go_simp)
      have cC2 : W.cell? ⟨w.heap.size + 2, 2, none⟩ = some (.int .i64 c3) := (hbw.cell (p := ⟨w.heap.size + 2, 2, none⟩) (by simp; try omega)).trans (by go_simp)
      have cC3 : W.cell? ⟨w.heap.size + 2, 3, none⟩ = some (.int .i64 c4) := (hbw.cell (p := ⟨w.heap.size + 2, 3, none⟩) (by simp; try omega)).trans (by go_simp)
      have HBW := Lib.hid hBW
      clear hbw hBW
      go_wp2
      have nA0 := fun p : NewBy W => NewBy.cell (o := 0) (by omega) cA0 p
      have nA1 := fun p : NewBy W => NewBy.cell (o := 1) (by omega) cA1 p
      have nA2 := fun p : NewBy W => NewBy.cell (o := 2) (by omega) cA2 p
      have nA3 := fun p : NewBy W => NewBy.cell (o := 3) (by omega) cA3 p
      have nB0 := fun p : NewBy W => NewBy.cell (o := 0) (by omega) cB0 p
      have nB1 := fun p : NewBy W => NewBy.cell (o := 1) (by omega) cB1 p
      have nB2 := fun p : NewBy W => NewBy.cell (o := 2) (by omega) cB2 p
      have nB3 := fun p : NewBy W => NewBy.cell (o := 3) (by omega) cB3 p
      refine wp_region_new (by kernel_rfl) (by kernel_rfl) ?_
      repeat (go_big_quiet_step (first | (go_at_call 28; exact Calls.new_of (less_any _ _ _ _ _ _ _ _ _)) | (go_at_call 30; exact Calls.new_of (lless_any _ _ _ _ _ _ _ _ _)) | (go_at_call 29; exact Calls.new_of (awake2 _))))
      refine wpQuiet_nil ?_
      intro wz hz
      obtain ⟨pz, hz⟩ := hz
      subst hz
      go_wp2
      go_ret
      exact ⟨rfl, HBW.out.trans (pz.below.mono HBW.out.size)⟩

set_option maxHeartbeats 40000000 in
theorem less_same (hm : (near % 2 == 1) = true) (hm2 : (near % 8 == 7) = true) :
    Calls Try.prog 12 #[.agg #[.int .i64 a1, .int .i64 a2, .int .i64 a3, .int .i64 a4], .agg #[.int .i64 b1, .int .i64 b2, .int .i64 b3, .int .i64 b4], .agg #[.int .i64 c1, .int .i64 c2, .int .i64 c3, .int .i64 c4], .int .u8 near] w fun e w' => e = .returned (.bool true) ∧ Below w.heap.size w w' := by
  have haa := klt_irrefl (a1, a2, a3, a4)
  go_enter Try.func12, Try.ntmps12
  go_wp2_with fail
  refine (less_any _ _ _ _ _ _ _ _ _).mono ?_
  rintro e W ⟨rfl, hbw⟩
  have hs0 : w.heap.size + 2 < W.heap.size := by have := hbw.size; simp at this; omega
  have hBW : Below w.heap.size w W := (below_three _ _ _).trans (hbw.mono (by simp; omega))
  have cA0 : W.cell? ⟨w.heap.size, 0, none⟩ = some (.int .i64 a1) := (hbw.cell (p := ⟨w.heap.size, 0, none⟩) (by simp; try omega)).trans (by go_simp)
  have cA1 : W.cell? ⟨w.heap.size, 1, none⟩ = some (.int .i64 a2) := (hbw.cell (p := ⟨w.heap.size, 1, none⟩) (by simp; try omega)).trans (by go_simp)
  have cA2 : W.cell? ⟨w.heap.size, 2, none⟩ = some (.int .i64 a3) := (hbw.cell (p := ⟨w.heap.size, 2, none⟩) (by simp; try omega)).trans (by go_simp)
  have cA3 : W.cell? ⟨w.heap.size, 3, none⟩ = some (.int .i64 a4) := (hbw.cell (p := ⟨w.heap.size, 3, none⟩) (by simp; try omega)).trans (by go_simp)
  have cB0 : W.cell? ⟨w.heap.size + 1, 0, none⟩ = some (.int .i64 a1) := (hbw.cell (p := ⟨w.heap.size + 1, 0, none⟩) (by simp; try omega)).trans (by go_simp)
  have cB1 : W.cell? ⟨w.heap.size + 1, 1, none⟩ = some (.int .i64 a2) := (hbw.cell (p := ⟨w.heap.size + 1, 1, none⟩) (by simp; try omega)).trans (by go_simp)
  have cB2 : W.cell? ⟨w.heap.size + 1, 2, none⟩ = some (.int .i64 a3) := (hbw.cell (p := ⟨w.heap.size + 1, 2, none⟩) (by simp; try omega)).trans (by go_simp)
  have cB3 : W.cell? ⟨w.heap.size + 1, 3, none⟩ = some (.int .i64 a4) := (hbw.cell (p := ⟨w.heap.size + 1, 3, none⟩) (by simp; try omega)).trans (by go_simp)
  have cC0 : W.cell? ⟨w.heap.size + 2, 0, none⟩ = some (.int .i64 a1) := (hbw.cell (p := ⟨w.heap.size + 2, 0, none⟩) (by simp; try omega)).trans (by go_simp)
  have cC1 : W.cell? ⟨w.heap.size + 2, 1, none⟩ = some (.int .i64 c2) := (hbw.cell (p := ⟨w.heap.size + 2, 1, none⟩) (by simp; try omega)).trans (by go_simp)
  have cC2 : W.cell? ⟨w.heap.size + 2, 2, none⟩ = some (.int .i64 c3) := (hbw.cell (p := ⟨w.heap.size + 2, 2, none⟩) (by simp; try omega)).trans (by go_simp)
  have cC3 : W.cell? ⟨w.heap.size + 2, 3, none⟩ = some (.int .i64 c4) := (hbw.cell (p := ⟨w.heap.size + 2, 3, none⟩) (by simp; try omega)).trans (by go_simp)
  have HBW := Lib.hid hBW
  clear hbw hBW
  go_wp2
  have nA0 := fun p : NewBy W => NewBy.cell (o := 0) (by omega) cA0 p
  have nA1 := fun p : NewBy W => NewBy.cell (o := 1) (by omega) cA1 p
  have nA2 := fun p : NewBy W => NewBy.cell (o := 2) (by omega) cA2 p
  have nA3 := fun p : NewBy W => NewBy.cell (o := 3) (by omega) cA3 p
  have nB0 := fun p : NewBy W => NewBy.cell (o := 0) (by omega) cB0 p
  have nB1 := fun p : NewBy W => NewBy.cell (o := 1) (by omega) cB1 p
  have nB2 := fun p : NewBy W => NewBy.cell (o := 2) (by omega) cB2 p
  have nB3 := fun p : NewBy W => NewBy.cell (o := 3) (by omega) cB3 p
  refine wp_region_new (by kernel_rfl) (by kernel_rfl) ?_
  repeat (go_big_quiet_step (first | (go_at_call 28; exact Calls.new_of (less_any _ _ _ _ _ _ _ _ _)) | (go_at_call 30; exact Calls.new_of (lless_any _ _ _ _ _ _ _ _ _)) | (go_at_call 29; exact Calls.new_of (awake2 _))))
  refine wpQuiet_nil ?_
  intro wz hz
  obtain ⟨pz, hz⟩ := hz
  subst hz
  go_wp2
  go_ret
  exact ⟨rfl, HBW.out.trans (pz.below.mono HBW.out.size)⟩

theorem less_law :
    Calls Try.prog 12 #[.agg #[.int .i64 a1, .int .i64 a2, .int .i64 a3, .int .i64 a4], .agg #[.int .i64 b1, .int .i64 b2, .int .i64 b3, .int .i64 b4], .agg #[.int .i64 c1, .int .i64 c2, .int .i64 c3, .int .i64 c4], .int .u8 near] w fun e w' => e = .returned (.bool true) ∧ Below w.heap.size w w' := by
  by_cases h1 : near % 8 = 7
  · exact less_same a1 a2 a3 a4 b1 b2 b3 b4 c1 c2 c3 c4 near w hn hn2 (by rw [beq_iff_eq]; omega) (by rw [beq_iff_eq]; omega)
  · by_cases h2 : near % 2 = 1
    · exact less_near a1 a2 a3 a4 b1 b2 b3 b4 c1 c2 c3 c4 near w hn hn2 (by rw [beq_iff_eq]; omega) (by rw [beq_eq_false_iff_ne]; omega)
    · exact less_plain a1 a2 a3 a4 b1 b2 b3 b4 c1 c2 c3 c4 near w hn hn2 (by rw [beq_eq_false_iff_ne]; omega) (by rw [beq_eq_false_iff_ne]; omega)

end
end Go.Proofs.Ytgombejncjcjhaa
