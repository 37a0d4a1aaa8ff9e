/-
  The walk of the law MarkBoth.
  Conditions: none beyond each theorem's own.
-/
import Derived.Test.YtpllpofoclijlaaMarkBoundsWalk
namespace Go.Proofs.Ytpllpofoclijlaa
open Go.RowKit
set_option linter.unusedVariables false

theorem mayB_both (z x y : Int) : mayB [z] [(0, x)] [(0, y)] = (decide (x ≤ z) && decide (z < y)) := by
  unfold mayB shortA fullA getI
  by_cases h : x ≤ z <;> by_cases g : z < y <;> simp [h, g] <;> omega

set_option maxRecDepth 100000 in
set_option maxHeartbeats 4000000 in
theorem both_law (T M V : Nat) (hT : T < 256) (hM : M < 256) (hV : V < 256) (w : World) :
    Calls Try.prog 8 #[.int .u8 (T : Int), .int .u8 (M : Int), .int .u8 (V : Int)] w fun e w' => e = .returned (.bool true) ∧ Below w.heap.size w w' := by
  have hTi : (T : Int) < 256 := by omega
  have hT0 : 0 ≤ (T : Int) := by omega
  have hMi : (M : Int) < 256 := by omega
  have hM0 : 0 ≤ (M : Int) := by omega
  have hVi : (V : Int) < 256 := by omega
  have hV0 : 0 ≤ (V : Int) := by omega
  obtain ⟨W, hW⟩ : ∃ W, W = ((w.alloc (.cells #[.int .i64 0, .int .i64 (1 + (T : Int))] 37)).alloc (.cells #[.int .i64 0, .int .i64 (1 + (M : Int))] 37)).alloc (.cells #[.string { data := #[] }, .int .i64 0, .int .i64 0, .slice (some ⟨w.heap.size, 0, none⟩) 1 1, .slice (some ⟨w.heap.size + 1, 0, none⟩) 1 1, .slice none 0 0] 40) := ⟨_, rfl⟩
  have hbox : TBox W (w.heap.size + 1 + 1) (some ⟨w.heap.size, 0, none⟩) 1 1 (some ⟨w.heap.size + 1, 0, none⟩) 1 1 [(0, 1 + (T : Int))] [(0, 1 + (M : Int))] := by
    subst hW
    exact ⟨by simp, by go_simp, by go_simp, by go_simp, by go_simp, by go_simp, by go_simp, arcs1_at (by simp; omega) (by go_simp) (by go_simp), arcs1_at (by simp) (by go_simp) (by go_simp), rfl, rfl⟩
  have hb0 : Below w.heap.size w W := by
    subst hW
    exact (((Below.refl _ _).alloc (Nat.le_refl _) _).alloc (by simp) _).alloc (by simp; omega) _
  have hws : W.heap.size = w.heap.size + 1 + 1 + 1 := by subst hW; simp
  have hb1 : Below W.heap.size W (W.alloc (.cells #[.int .i64 (V : Int)] 3)) := (Below.refl _ _).alloc (Nat.le_refl _) _
  have hown : OwnI w.heap.size (W.alloc (.cells #[.int .i64 (V : Int)] 3)) (.slice (some ⟨W.heap.size, 0, none⟩) 1 1) [(V : Int)] := boxRow.new w.heap.size W 3 #[.int .i64 (V : Int)] hb0.size
  have hx1 := hbox.go hb1
  rw [hws] at hown
  rw [hW] at hown hx1 hb1 hb0
  have Hx1 := Lib.hid hx1
  have Hown := Lib.hid hown
  have Hb1 := Lib.hid (hb0.trans (hb1.mono (by rw [← hW, hws]; omega)))
  obtain ⟨xlt, x0, x1, x2, x3, x4, x5, -, -, -, -⟩ := Hx1.out
  clear hbox hb0 hws hb1 hown hx1 hW
  by_cases g1 : 1 + (T : Int) ≤ (V : Int)
  · by_cases g2 : (V : Int) < 1 + (M : Int)
    · go_enter Try.func8, Try.ntmps8
      go_wp2_with fail
      refine (may_any (m := [(V : Int)]) rfl rfl rfl Hx1.out.l1 Hx1.out.l2 Hown.out.at_ (fits1 V _) (fits1 V _) true (by rw [mayB_both]; simp [g1, g2])).mono ?_
      rintro e w2 ⟨rfl, hb⟩
      have Hx2 := Lib.hid (Hx1.out.go hb)
      have Hown2 := Lib.hid (Hown.out.below hb)
      have Hb2 := Lib.hid (Hb1.out.trans (hb.mono Hb1.out.size))
      clear x0 x1 x2 x3 x4 x5 xlt
      obtain ⟨xlt, x0, x1, x2, x3, x4, x5, -, -, -, -⟩ := Hx2.out
      clear hb Hx1 Hb1 Hown
      have hoff : OffBlock (.slice (some ⟨w.heap.size, 0, none⟩) 1 1) (w.heap.size + 1 + 1 + 1) := by
        rintro k ⟨b, off, n, c, e, rfl⟩
        injection e with e
        injection e with e
        injection e with e
        omega
      have Htk := Lib.hid (take_any (s := { data := #[] }) (d := 0) (p := 0) (a2 := some ⟨w.heap.size + 1, 0, none⟩) (n2 := 1) (c2 := 1) (a3 := none) (n3 := 0) (c3 := 0) (B := w.heap.size) (m := [(V : Int)]) rfl rfl Hx2.out.l1 hoff Hown2.out (fits1 V _))
      have htake : takeL [(0, 1 + (T : Int))] [(V : Int)] = [(V : Int) - 1 - (T : Int)] := by
        simp [takeL, stepT, getI]
        unfold wrap64; omega
      rw [htake] at Htk
      clear hoff htake Hown2
      go_wp2_with fail
      refine Htk.out.mono ?_
      rintro e w3 ⟨rfl, hown, hkp⟩
      have hb3 : Below w.heap.size w w3 := Hb2.out.trans (hkp.below (fun k e => by omega) Hb2.out.size)
      have Hown3 := Lib.hid hown
      have Hb3 := Lib.hid hb3
      clear x0 x1 x2 x3 x4 x5 xlt hown hkp hb3 Htk Hx2 Hb2
      go_wp2_with fail
      refine (awake8_any _).mono ?_
      rintro e w4 ⟨rfl, hb⟩
      have Hb4 := Lib.hid (Hb3.out.trans (hb.mono Hb3.out.size))
      have hc := (Hown3.out.below hb).cell (k := 0) rfl
      clear hb Hown3
      go_wp2
      go_ret
      exact ⟨rfl, Hb4.out⟩
    · have g2b : decide ((V : Int) < 1 + (M : Int)) = false := decide_eq_false g2
      go_enter Try.func8, Try.ntmps8
      go_wp2_with fail
      refine (may_any (m := [(V : Int)]) rfl rfl rfl Hx1.out.l1 Hx1.out.l2 Hown.out.at_ (fits1 V _) (fits1 V _) false (by rw [mayB_both]; simp [g1, g2])).mono ?_
      rintro e w2 ⟨rfl, hb⟩
      have Hb2 := Lib.hid (Hb1.out.trans (hb.mono Hb1.out.size))
      clear x0 x1 x2 x3 x4 x5 xlt hb
      go_wp2_with fail
      refine (awake8_any _).mono ?_
      rintro e w4 ⟨rfl, hb⟩
      have Hb4 := Lib.hid (Hb2.out.trans (hb.mono Hb2.out.size))
      clear hb
      go_wp2
      go_ret
      exact ⟨rfl, Hb4.out⟩
  · have g1b : decide (1 + (T : Int) ≤ (V : Int)) = false := decide_eq_false g1
    go_enter Try.func8, Try.ntmps8
    go_wp2_with fail
    refine (may_any (m := [(V : Int)]) rfl rfl rfl Hx1.out.l1 Hx1.out.l2 Hown.out.at_ (fits1 V _) (fits1 V _) false (by rw [mayB_both]; simp; omega)).mono ?_
    rintro e w2 ⟨rfl, hb⟩
    have Hb2 := Lib.hid (Hb1.out.trans (hb.mono Hb1.out.size))
    clear x0 x1 x2 x3 x4 x5 xlt hb
    go_wp2_with fail
    refine (awake8_any _).mono ?_
    rintro e w4 ⟨rfl, hb⟩
    have Hb4 := Lib.hid (Hb2.out.trans (hb.mono Hb2.out.size))
    clear hb
    go_wp2
    go_ret
    exact ⟨rfl, Hb4.out⟩

theorem bounds_int {n : Int} (hn : (Lit.int .u8 n).wf = true) (ask : Bool) (w : World) :
    Calls Try.prog 7 #[.int .u8 n, .bool ask] w fun e w' => e = .returned (.bool true) ∧ Below w.heap.size w w' := by
  obtain ⟨k, rfl, hk⟩ := u8_nat hn
  exact bounds_law k hk ask w
theorem both_int {x y z : Int} (hx : (Lit.int .u8 x).wf = true) (hy : (Lit.int .u8 y).wf = true) (hz : (Lit.int .u8 z).wf = true) (w : World) :
    Calls Try.prog 8 #[.int .u8 x, .int .u8 y, .int .u8 z] w fun e w' => e = .returned (.bool true) ∧ Below w.heap.size w w' := by
  obtain ⟨k1, rfl, h1⟩ := u8_nat hx
  obtain ⟨k2, rfl, h2⟩ := u8_nat hy
  obtain ⟨k3, rfl, h3⟩ := u8_nat hz
  exact both_law k1 k2 k3 h1 h2 h3 w
end Go.Proofs.Ytpllpofoclijlaa
