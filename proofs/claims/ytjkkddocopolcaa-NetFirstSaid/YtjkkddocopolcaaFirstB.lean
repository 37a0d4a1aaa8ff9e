/-
  Walks of the law NetFirst, for some of its inputs: it returns true.
  Conditions: each theorem's own.
-/
import Derived.Test.YtjkkddocopolcaaFirstBase
import Derived.RegionTactic
namespace Go.Proofs.Ytjkkddocopolcaa
open Go.RowKit
set_option linter.unusedVariables false

set_option maxRecDepth 100000 in
set_option maxHeartbeats 4000000 in
theorem first_01000 (w : World) : Calls Try.prog 8 #[.bool false, .bool true, .bool false, .bool false, .bool false] w fun e w' => e = .returned (.bool true) ∧ Below w.heap.size w w' := by
  have HE : Hid (checkN ⟨[⟨sP, 0⟩], [⟨sP, 0, 0, [(0, 1)], [], []⟩]⟩ = 7) := Lib.hid (by decide)
  go_enter Try.func8, Try.ntmps8
  go_wp2_with fail
  refine (awake_any _).mono ?_
  rintro e w1 ⟨rfl, hb⟩
  have hz : w.heap.size + 4 ≤ w1.heap.size := by have := hb.size; simp at this; omega
  have d0 : CellsAre w1 w.heap.size 0 [.string sP, .int .i64 0] := CellsAre.below hb (by simp <;> omega) ⟨by go_simp, by go_simp, trivial⟩
  have d1 : CellsAre w1 (w.heap.size + 1) 0 [.int .i64 0, .int .i64 1] := CellsAre.below hb (by simp <;> omega) ⟨by go_simp, by go_simp, trivial⟩
  have d2 : CellsAre w1 (w.heap.size + 1 + 1) 0 [.string sP, .int .i64 0, .int .i64 (0), .slice (some ⟨w.heap.size + 1, 0, none⟩) 1 1, .slice none 0 0, .slice none 0 0] := CellsAre.below hb (by simp <;> omega) ⟨by go_simp, by go_simp, by go_simp, by go_simp, by go_simp, by go_simp, trivial⟩
  have d3 : CellsAre w1 (w.heap.size + 1 + 1 + 1) 0 [.slice (some ⟨w.heap.size, 0, none⟩) 1 1, .slice (some ⟨w.heap.size + 1 + 1, 0, none⟩) 1 1] := CellsAre.below hb (by simp <;> omega) ⟨by go_simp, by go_simp, trivial⟩
  have b0 := d3.1
  have b1 := d3.2.1
  have hbo : Below w.heap.size w w1 := by
    refine Below.trans ?_ (hb.mono (by simp <;> omega))
    exact (((((Below.refl _ w).alloc (Nat.le_refl _) _).alloc (by simp <;> omega) _).alloc (by simp <;> omega) _).alloc (by simp <;> omega) _)
  have a1 : ArcsAt w1 (.slice (some ⟨w.heap.size + 1, 0, none⟩) 1 1) [(0, 1)] := CellsAre.row d1 (by omega) rfl (by omega) (by omega)
  have a2 : ArcsAt w1 (.slice none 0 0) [] := arcsAt_nil _
  have a3 : ArcsAt w1 (.slice none 0 0) [] := arcsAt_nil _
  have Hn : Hid (NetAt w1 (.slice (some ⟨w.heap.size, 0, none⟩) 1 1) (.slice (some ⟨w.heap.size + 1 + 1, 0, none⟩) 1 1) ⟨[⟨sP, 0⟩], [⟨sP, 0, 0, [(0, 1)], [], []⟩]⟩) := Lib.hid (netAt_mk (CellsAre.row d0 (by omega) rfl (by omega) (by omega)) [(⟨sP, 0, 0, [(0, 1)], [], []⟩, .slice (some ⟨w.heap.size + 1, 0, none⟩) 1 1, .slice none 0 0, .slice none 0 0)] rfl (CellsAre.row d2 (by omega) rfl (by omega) (by omega)) (fun x hx => by simp only [List.mem_singleton] at hx; subst hx; exact ⟨a1, a2, a3⟩))
  have Hb := Lib.hid hbo
  clear hb hbo d0 d1 d2 d3 a1 a2 a3
  go_wp2_with fail
  refine (check_at rfl rfl Hn.out (by decide) HE.out).mono ?_
  rintro e w2 ⟨rfl, hb2⟩
  have Hb2 := Lib.hid hb2
  clear hb2
  go_wp2
  go_ret
  exact ⟨rfl, Hb.out.trans (Hb2.out.mono Hb.out.size)⟩

set_option maxRecDepth 100000 in
set_option maxHeartbeats 4000000 in
theorem first_01001 (w : World) : Calls Try.prog 8 #[.bool false, .bool true, .bool false, .bool false, .bool true] w fun e w' => e = .returned (.bool true) ∧ Below w.heap.size w w' := by
  have HE : Hid (checkN ⟨[⟨sP, 0⟩], [⟨sP, 0, 0, [(0, 1)], [(0, 1), (0, 1)], []⟩]⟩ = 7) := Lib.hid (by decide)
  go_enter Try.func8, Try.ntmps8
  go_wp2_with fail
  refine (awake_any _).mono ?_
  rintro e w1 ⟨rfl, hb⟩
  have hz : w.heap.size + 5 ≤ w1.heap.size := by have := hb.size; simp at this; omega
  have d0 : CellsAre w1 w.heap.size 0 [.string sP, .int .i64 0] := CellsAre.below hb (by simp <;> omega) ⟨by go_simp, by go_simp, trivial⟩
  have d1 : CellsAre w1 (w.heap.size + 1) 0 [.int .i64 0, .int .i64 1] := CellsAre.below hb (by simp <;> omega) ⟨by go_simp, by go_simp, trivial⟩
  have d2 : CellsAre w1 (w.heap.size + 1 + 1) 0 [.string sP, .int .i64 0, .int .i64 (0), .slice (some ⟨w.heap.size + 1, 0, none⟩) 1 1, .slice (some ⟨w.heap.size + 1 + 1 + 1 + 1, 0, none⟩) 2 2, .slice none 0 0] := CellsAre.below hb (by simp <;> omega) ⟨by go_simp, by go_simp, by go_simp, by go_simp, by go_simp, by go_simp, trivial⟩
  have d3 : CellsAre w1 (w.heap.size + 1 + 1 + 1) 0 [.slice (some ⟨w.heap.size, 0, none⟩) 1 1, .slice (some ⟨w.heap.size + 1 + 1, 0, none⟩) 1 1] := CellsAre.below hb (by simp <;> omega) ⟨by go_simp, by go_simp, trivial⟩
  have b0 := d3.1
  have b1 := d3.2.1
  have d4 : CellsAre w1 (w.heap.size + 1 + 1 + 1 + 1) 0 [.int .i64 0, .int .i64 1, .int .i64 0, .int .i64 1] := CellsAre.below hb (by simp <;> omega) ⟨by go_simp, by go_simp, by go_simp, by go_simp, trivial⟩
  have hbo : Below w.heap.size w w1 := by
    refine Below.trans ?_ (hb.mono (by simp <;> omega))
    exact ((((((Below.refl _ w).alloc (Nat.le_refl _) _).alloc (by simp <;> omega) _).alloc (by simp <;> omega) _).alloc (by simp <;> omega) _).alloc (by simp <;> omega) _)
  have a1 : ArcsAt w1 (.slice (some ⟨w.heap.size + 1, 0, none⟩) 1 1) [(0, 1)] := CellsAre.row d1 (by omega) rfl (by omega) (by omega)
  have a2 : ArcsAt w1 (.slice (some ⟨w.heap.size + 1 + 1 + 1 + 1, 0, none⟩) 2 2) [(0, 1), (0, 1)] := CellsAre.row d4 (by omega) rfl (by omega) (by omega)
  have a3 : ArcsAt w1 (.slice none 0 0) [] := arcsAt_nil _
  have Hn : Hid (NetAt w1 (.slice (some ⟨w.heap.size, 0, none⟩) 1 1) (.slice (some ⟨w.heap.size + 1 + 1, 0, none⟩) 1 1) ⟨[⟨sP, 0⟩], [⟨sP, 0, 0, [(0, 1)], [(0, 1), (0, 1)], []⟩]⟩) := Lib.hid (netAt_mk (CellsAre.row d0 (by omega) rfl (by omega) (by omega)) [(⟨sP, 0, 0, [(0, 1)], [(0, 1), (0, 1)], []⟩, .slice (some ⟨w.heap.size + 1, 0, none⟩) 1 1, .slice (some ⟨w.heap.size + 1 + 1 + 1 + 1, 0, none⟩) 2 2, .slice none 0 0)] rfl (CellsAre.row d2 (by omega) rfl (by omega) (by omega)) (fun x hx => by simp only [List.mem_singleton] at hx; subst hx; exact ⟨a1, a2, a3⟩))
  have Hb := Lib.hid hbo
  clear hb hbo d0 d1 d2 d3 a1 a2 a3 d4
  go_wp2_with fail
  refine (check_at rfl rfl Hn.out (by decide) HE.out).mono ?_
  rintro e w2 ⟨rfl, hb2⟩
  have Hb2 := Lib.hid hb2
  clear hb2
  go_wp2
  go_ret
  exact ⟨rfl, Hb.out.trans (Hb2.out.mono Hb.out.size)⟩

set_option maxRecDepth 100000 in
set_option maxHeartbeats 4000000 in
theorem first_01010 (w : World) : Calls Try.prog 8 #[.bool false, .bool true, .bool false, .bool true, .bool false] w fun e w' => e = .returned (.bool true) ∧ Below w.heap.size w w' := by
  have HE : Hid (checkN ⟨[⟨sP, 0⟩], [⟨sP, 0, 0, [(1, 1)], [], []⟩]⟩ = 7) := Lib.hid (by decide)
  go_enter Try.func8, Try.ntmps8
  go_wp2_with fail
  refine (awake_any _).mono ?_
  rintro e w1 ⟨rfl, hb⟩
  have hz : w.heap.size + 4 ≤ w1.heap.size := by have := hb.size; simp at this; omega
  have d0 : CellsAre w1 w.heap.size 0 [.string sP, .int .i64 0] := CellsAre.below hb (by simp <;> omega) ⟨by go_simp, by go_simp, trivial⟩
  have d1 : CellsAre w1 (w.heap.size + 1) 0 [.int .i64 1, .int .i64 1] := CellsAre.below hb (by simp <;> omega) ⟨by go_simp, by go_simp, trivial⟩
  have d2 : CellsAre w1 (w.heap.size + 1 + 1) 0 [.string sP, .int .i64 0, .int .i64 (0), .slice (some ⟨w.heap.size + 1, 0, none⟩) 1 1, .slice none 0 0, .slice none 0 0] := CellsAre.below hb (by simp <;> omega) ⟨by go_simp, by go_simp, by go_simp, by go_simp, by go_simp, by go_simp, trivial⟩
  have d3 : CellsAre w1 (w.heap.size + 1 + 1 + 1) 0 [.slice (some ⟨w.heap.size, 0, none⟩) 1 1, .slice (some ⟨w.heap.size + 1 + 1, 0, none⟩) 1 1] := CellsAre.below hb (by simp <;> omega) ⟨by go_simp, by go_simp, trivial⟩
  have b0 := d3.1
  have b1 := d3.2.1
  have hbo : Below w.heap.size w w1 := by
    refine Below.trans ?_ (hb.mono (by simp <;> omega))
    exact (((((Below.refl _ w).alloc (Nat.le_refl _) _).alloc (by simp <;> omega) _).alloc (by simp <;> omega) _).alloc (by simp <;> omega) _)
  have a1 : ArcsAt w1 (.slice (some ⟨w.heap.size + 1, 0, none⟩) 1 1) [(1, 1)] := CellsAre.row d1 (by omega) rfl (by omega) (by omega)
  have a2 : ArcsAt w1 (.slice none 0 0) [] := arcsAt_nil _
  have a3 : ArcsAt w1 (.slice none 0 0) [] := arcsAt_nil _
  have Hn : Hid (NetAt w1 (.slice (some ⟨w.heap.size, 0, none⟩) 1 1) (.slice (some ⟨w.heap.size + 1 + 1, 0, none⟩) 1 1) ⟨[⟨sP, 0⟩], [⟨sP, 0, 0, [(1, 1)], [], []⟩]⟩) := Lib.hid (netAt_mk (CellsAre.row d0 (by omega) rfl (by omega) (by omega)) [(⟨sP, 0, 0, [(1, 1)], [], []⟩, .slice (some ⟨w.heap.size + 1, 0, none⟩) 1 1, .slice none 0 0, .slice none 0 0)] rfl (CellsAre.row d2 (by omega) rfl (by omega) (by omega)) (fun x hx => by simp only [List.mem_singleton] at hx; subst hx; exact ⟨a1, a2, a3⟩))
  have Hb := Lib.hid hbo
  clear hb hbo d0 d1 d2 d3 a1 a2 a3
  go_wp2_with fail
  refine (check_at rfl rfl Hn.out (by decide) HE.out).mono ?_
  rintro e w2 ⟨rfl, hb2⟩
  have Hb2 := Lib.hid hb2
  clear hb2
  go_wp2
  go_ret
  exact ⟨rfl, Hb.out.trans (Hb2.out.mono Hb.out.size)⟩

set_option maxRecDepth 100000 in
set_option maxHeartbeats 4000000 in
theorem first_01011 (w : World) : Calls Try.prog 8 #[.bool false, .bool true, .bool false, .bool true, .bool true] w fun e w' => e = .returned (.bool true) ∧ Below w.heap.size w w' := by
  have HE : Hid (checkN ⟨[⟨sP, 0⟩], [⟨sP, 0, 0, [(1, 1)], [(0, 1), (0, 1)], []⟩]⟩ = 7) := Lib.hid (by decide)
  go_enter Try.func8, Try.ntmps8
  go_wp2_with fail
  refine (awake_any _).mono ?_
  rintro e w1 ⟨rfl, hb⟩
  have hz : w.heap.size + 5 ≤ w1.heap.size := by have := hb.size; simp at this; omega
  have d0 : CellsAre w1 w.heap.size 0 [.string sP, .int .i64 0] := CellsAre.below hb (by simp <;> omega) ⟨by go_simp, by go_simp, trivial⟩
  have d1 : CellsAre w1 (w.heap.size + 1) 0 [.int .i64 1, .int .i64 1] := CellsAre.below hb (by simp <;> omega) ⟨by go_simp, by go_simp, trivial⟩
  have d2 : CellsAre w1 (w.heap.size + 1 + 1) 0 [.string sP, .int .i64 0, .int .i64 (0), .slice (some ⟨w.heap.size + 1, 0, none⟩) 1 1, .slice (some ⟨w.heap.size + 1 + 1 + 1 + 1, 0, none⟩) 2 2, .slice none 0 0] := CellsAre.below hb (by simp <;> omega) ⟨by go_simp, by go_simp, by go_simp, by go_simp, by go_simp, by go_simp, trivial⟩
  have d3 : CellsAre w1 (w.heap.size + 1 + 1 + 1) 0 [.slice (some ⟨w.heap.size, 0, none⟩) 1 1, .slice (some ⟨w.heap.size + 1 + 1, 0, none⟩) 1 1] := CellsAre.below hb (by simp <;> omega) ⟨by go_simp, by go_simp, trivial⟩
  have b0 := d3.1
  have b1 := d3.2.1
  have d4 : CellsAre w1 (w.heap.size + 1 + 1 + 1 + 1) 0 [.int .i64 0, .int .i64 1, .int .i64 0, .int .i64 1] := CellsAre.below hb (by simp <;> omega) ⟨by go_simp, by go_simp, by go_simp, by go_simp, trivial⟩
  have hbo : Below w.heap.size w w1 := by
    refine Below.trans ?_ (hb.mono (by simp <;> omega))
    exact ((((((Below.refl _ w).alloc (Nat.le_refl _) _).alloc (by simp <;> omega) _).alloc (by simp <;> omega) _).alloc (by simp <;> omega) _).alloc (by simp <;> omega) _)
  have a1 : ArcsAt w1 (.slice (some ⟨w.heap.size + 1, 0, none⟩) 1 1) [(1, 1)] := CellsAre.row d1 (by omega) rfl (by omega) (by omega)
  have a2 : ArcsAt w1 (.slice (some ⟨w.heap.size + 1 + 1 + 1 + 1, 0, none⟩) 2 2) [(0, 1), (0, 1)] := CellsAre.row d4 (by omega) rfl (by omega) (by omega)
  have a3 : ArcsAt w1 (.slice none 0 0) [] := arcsAt_nil _
  have Hn : Hid (NetAt w1 (.slice (some ⟨w.heap.size, 0, none⟩) 1 1) (.slice (some ⟨w.heap.size + 1 + 1, 0, none⟩) 1 1) ⟨[⟨sP, 0⟩], [⟨sP, 0, 0, [(1, 1)], [(0, 1), (0, 1)], []⟩]⟩) := Lib.hid (netAt_mk (CellsAre.row d0 (by omega) rfl (by omega) (by omega)) [(⟨sP, 0, 0, [(1, 1)], [(0, 1), (0, 1)], []⟩, .slice (some ⟨w.heap.size + 1, 0, none⟩) 1 1, .slice (some ⟨w.heap.size + 1 + 1 + 1 + 1, 0, none⟩) 2 2, .slice none 0 0)] rfl (CellsAre.row d2 (by omega) rfl (by omega) (by omega)) (fun x hx => by simp only [List.mem_singleton] at hx; subst hx; exact ⟨a1, a2, a3⟩))
  have Hb := Lib.hid hbo
  clear hb hbo d0 d1 d2 d3 a1 a2 a3 d4
  go_wp2_with fail
  refine (check_at rfl rfl Hn.out (by decide) HE.out).mono ?_
  rintro e w2 ⟨rfl, hb2⟩
  have Hb2 := Lib.hid hb2
  clear hb2
  go_wp2
  go_ret
  exact ⟨rfl, Hb.out.trans (Hb2.out.mono Hb.out.size)⟩

set_option maxRecDepth 100000 in
set_option maxHeartbeats 4000000 in
theorem first_01100 (w : World) : Calls Try.prog 8 #[.bool false, .bool true, .bool true, .bool false, .bool false] w fun e w' => e = .returned (.bool true) ∧ Below w.heap.size w w' := by
  have HE : Hid (checkN ⟨[⟨sP, 0⟩], [⟨sP, 0, -1, [(0, 1)], [], []⟩]⟩ = 7) := Lib.hid (by decide)
  go_enter Try.func8, Try.ntmps8
  go_wp2_with fail
  refine (awake_any _).mono ?_
  rintro e w1 ⟨rfl, hb⟩
  have hz : w.heap.size + 4 ≤ w1.heap.size := by have := hb.size; simp at this; omega
  have d0 : CellsAre w1 w.heap.size 0 [.string sP, .int .i64 0] := CellsAre.below hb (by simp <;> omega) ⟨by go_simp, by go_simp, trivial⟩
  have d1 : CellsAre w1 (w.heap.size + 1) 0 [.int .i64 0, .int .i64 1] := CellsAre.below hb (by simp <;> omega) ⟨by go_simp, by go_simp, trivial⟩
  have d2 : CellsAre w1 (w.heap.size + 1 + 1) 0 [.string sP, .int .i64 0, .int .i64 (-1), .slice (some ⟨w.heap.size + 1, 0, none⟩) 1 1, .slice none 0 0, .slice none 0 0] := CellsAre.below hb (by simp <;> omega) ⟨by go_simp, by go_simp, by go_simp, by go_simp, by go_simp, by go_simp, trivial⟩
  have d3 : CellsAre w1 (w.heap.size + 1 + 1 + 1) 0 [.slice (some ⟨w.heap.size, 0, none⟩) 1 1, .slice (some ⟨w.heap.size + 1 + 1, 0, none⟩) 1 1] := CellsAre.below hb (by simp <;> omega) ⟨by go_simp, by go_simp, trivial⟩
  have b0 := d3.1
  have b1 := d3.2.1
  have hbo : Below w.heap.size w w1 := by
    refine Below.trans ?_ (hb.mono (by simp <;> omega))
    exact (((((Below.refl _ w).alloc (Nat.le_refl _) _).alloc (by simp <;> omega) _).alloc (by simp <;> omega) _).alloc (by simp <;> omega) _)
  have a1 : ArcsAt w1 (.slice (some ⟨w.heap.size + 1, 0, none⟩) 1 1) [(0, 1)] := CellsAre.row d1 (by omega) rfl (by omega) (by omega)
  have a2 : ArcsAt w1 (.slice none 0 0) [] := arcsAt_nil _
  have a3 : ArcsAt w1 (.slice none 0 0) [] := arcsAt_nil _
  have Hn : Hid (NetAt w1 (.slice (some ⟨w.heap.size, 0, none⟩) 1 1) (.slice (some ⟨w.heap.size + 1 + 1, 0, none⟩) 1 1) ⟨[⟨sP, 0⟩], [⟨sP, 0, -1, [(0, 1)], [], []⟩]⟩) := Lib.hid (netAt_mk (CellsAre.row d0 (by omega) rfl (by omega) (by omega)) [(⟨sP, 0, -1, [(0, 1)], [], []⟩, .slice (some ⟨w.heap.size + 1, 0, none⟩) 1 1, .slice none 0 0, .slice none 0 0)] rfl (CellsAre.row d2 (by omega) rfl (by omega) (by omega)) (fun x hx => by simp only [List.mem_singleton] at hx; subst hx; exact ⟨a1, a2, a3⟩))
  have Hb := Lib.hid hbo
  clear hb hbo d0 d1 d2 d3 a1 a2 a3
  go_wp2_with fail
  refine (check_at rfl rfl Hn.out (by decide) HE.out).mono ?_
  rintro e w2 ⟨rfl, hb2⟩
  have Hb2 := Lib.hid hb2
  clear hb2
  go_wp2
  go_ret
  exact ⟨rfl, Hb.out.trans (Hb2.out.mono Hb.out.size)⟩

set_option maxRecDepth 100000 in
set_option maxHeartbeats 4000000 in
theorem first_01101 (w : World) : Calls Try.prog 8 #[.bool false, .bool true, .bool true, .bool false, .bool true] w fun e w' => e = .returned (.bool true) ∧ Below w.heap.size w w' := by
  have HE : Hid (checkN ⟨[⟨sP, 0⟩], [⟨sP, 0, -1, [(0, 1)], [(0, 1), (0, 1)], []⟩]⟩ = 7) := Lib.hid (by decide)
  go_enter Try.func8, Try.ntmps8
  go_wp2_with fail
  refine (awake_any _).mono ?_
  rintro e w1 ⟨rfl, hb⟩
  have hz : w.heap.size + 5 ≤ w1.heap.size := by have := hb.size; simp at this; omega
  have d0 : CellsAre w1 w.heap.size 0 [.string sP, .int .i64 0] := CellsAre.below hb (by simp <;> omega) ⟨by go_simp, by go_simp, trivial⟩
  have d1 : CellsAre w1 (w.heap.size + 1) 0 [.int .i64 0, .int .i64 1] := CellsAre.below hb (by simp <;> omega) ⟨by go_simp, by go_simp, trivial⟩
  have d2 : CellsAre w1 (w.heap.size + 1 + 1) 0 [.string sP, .int .i64 0, .int .i64 (-1), .slice (some ⟨w.heap.size + 1, 0, none⟩) 1 1, .slice (some ⟨w.heap.size + 1 + 1 + 1 + 1, 0, none⟩) 2 2, .slice none 0 0] := CellsAre.below hb (by simp <;> omega) ⟨by go_simp, by go_simp, by go_simp, by go_simp, by go_simp, by go_simp, trivial⟩
  have d3 : CellsAre w1 (w.heap.size + 1 + 1 + 1) 0 [.slice (some ⟨w.heap.size, 0, none⟩) 1 1, .slice (some ⟨w.heap.size + 1 + 1, 0, none⟩) 1 1] := CellsAre.below hb (by simp <;> omega) ⟨by go_simp, by go_simp, trivial⟩
  have b0 := d3.1
  have b1 := d3.2.1
  have d4 : CellsAre w1 (w.heap.size + 1 + 1 + 1 + 1) 0 [.int .i64 0, .int .i64 1, .int .i64 0, .int .i64 1] := CellsAre.below hb (by simp <;> omega) ⟨by go_simp, by go_simp, by go_simp, by go_simp, trivial⟩
  have hbo : Below w.heap.size w w1 := by
    refine Below.trans ?_ (hb.mono (by simp <;> omega))
    exact ((((((Below.refl _ w).alloc (Nat.le_refl _) _).alloc (by simp <;> omega) _).alloc (by simp <;> omega) _).alloc (by simp <;> omega) _).alloc (by simp <;> omega) _)
  have a1 : ArcsAt w1 (.slice (some ⟨w.heap.size + 1, 0, none⟩) 1 1) [(0, 1)] := CellsAre.row d1 (by omega) rfl (by omega) (by omega)
  have a2 : ArcsAt w1 (.slice (some ⟨w.heap.size + 1 + 1 + 1 + 1, 0, none⟩) 2 2) [(0, 1), (0, 1)] := CellsAre.row d4 (by omega) rfl (by omega) (by omega)
  have a3 : ArcsAt w1 (.slice none 0 0) [] := arcsAt_nil _
  have Hn : Hid (NetAt w1 (.slice (some ⟨w.heap.size, 0, none⟩) 1 1) (.slice (some ⟨w.heap.size + 1 + 1, 0, none⟩) 1 1) ⟨[⟨sP, 0⟩], [⟨sP, 0, -1, [(0, 1)], [(0, 1), (0, 1)], []⟩]⟩) := Lib.hid (netAt_mk (CellsAre.row d0 (by omega) rfl (by omega) (by omega)) [(⟨sP, 0, -1, [(0, 1)], [(0, 1), (0, 1)], []⟩, .slice (some ⟨w.heap.size + 1, 0, none⟩) 1 1, .slice (some ⟨w.heap.size + 1 + 1 + 1 + 1, 0, none⟩) 2 2, .slice none 0 0)] rfl (CellsAre.row d2 (by omega) rfl (by omega) (by omega)) (fun x hx => by simp only [List.mem_singleton] at hx; subst hx; exact ⟨a1, a2, a3⟩))
  have Hb := Lib.hid hbo
  clear hb hbo d0 d1 d2 d3 a1 a2 a3 d4
  go_wp2_with fail
  refine (check_at rfl rfl Hn.out (by decide) HE.out).mono ?_
  rintro e w2 ⟨rfl, hb2⟩
  have Hb2 := Lib.hid hb2
  clear hb2
  go_wp2
  go_ret
  exact ⟨rfl, Hb.out.trans (Hb2.out.mono Hb.out.size)⟩

set_option maxRecDepth 100000 in
set_option maxHeartbeats 4000000 in
theorem first_01110 (w : World) : Calls Try.prog 8 #[.bool false, .bool true, .bool true, .bool true, .bool false] w fun e w' => e = .returned (.bool true) ∧ Below w.heap.size w w' := by
  have HE : Hid (checkN ⟨[⟨sP, 0⟩], [⟨sP, 0, -1, [(1, 1)], [], []⟩]⟩ = 7) := Lib.hid (by decide)
  go_enter Try.func8, Try.ntmps8
  go_wp2_with fail
  refine (awake_any _).mono ?_
  rintro e w1 ⟨rfl, hb⟩
  have hz : w.heap.size + 4 ≤ w1.heap.size := by have := hb.size; simp at this; omega
  have d0 : CellsAre w1 w.heap.size 0 [.string sP, .int .i64 0] := CellsAre.below hb (by simp <;> omega) ⟨by go_simp, by go_simp, trivial⟩
  have d1 : CellsAre w1 (w.heap.size + 1) 0 [.int .i64 1, .int .i64 1] := CellsAre.below hb (by simp <;> omega) ⟨by go_simp, by go_simp, trivial⟩
  have d2 : CellsAre w1 (w.heap.size + 1 + 1) 0 [.string sP, .int .i64 0, .int .i64 (-1), .slice (some ⟨w.heap.size + 1, 0, none⟩) 1 1, .slice none 0 0, .slice none 0 0] := CellsAre.below hb (by simp <;> omega) ⟨by go_simp, by go_simp, by go_simp, by go_simp, by go_simp, by go_simp, trivial⟩
  have d3 : CellsAre w1 (w.heap.size + 1 + 1 + 1) 0 [.slice (some ⟨w.heap.size, 0, none⟩) 1 1, .slice (some ⟨w.heap.size + 1 + 1, 0, none⟩) 1 1] := CellsAre.below hb (by simp <;> omega) ⟨by go_simp, by go_simp, trivial⟩
  have b0 := d3.1
  have b1 := d3.2.1
  have hbo : Below w.heap.size w w1 := by
    refine Below.trans ?_ (hb.mono (by simp <;> omega))
    exact (((((Below.refl _ w).alloc (Nat.le_refl _) _).alloc (by simp <;> omega) _).alloc (by simp <;> omega) _).alloc (by simp <;> omega) _)
  have a1 : ArcsAt w1 (.slice (some ⟨w.heap.size + 1, 0, none⟩) 1 1) [(1, 1)] := CellsAre.row d1 (by omega) rfl (by omega) (by omega)
  have a2 : ArcsAt w1 (.slice none 0 0) [] := arcsAt_nil _
  have a3 : ArcsAt w1 (.slice none 0 0) [] := arcsAt_nil _
  have Hn : Hid (NetAt w1 (.slice (some ⟨w.heap.size, 0, none⟩) 1 1) (.slice (some ⟨w.heap.size + 1 + 1, 0, none⟩) 1 1) ⟨[⟨sP, 0⟩], [⟨sP, 0, -1, [(1, 1)], [], []⟩]⟩) := Lib.hid (netAt_mk (CellsAre.row d0 (by omega) rfl (by omega) (by omega)) [(⟨sP, 0, -1, [(1, 1)], [], []⟩, .slice (some ⟨w.heap.size + 1, 0, none⟩) 1 1, .slice none 0 0, .slice none 0 0)] rfl (CellsAre.row d2 (by omega) rfl (by omega) (by omega)) (fun x hx => by simp only [List.mem_singleton] at hx; subst hx; exact ⟨a1, a2, a3⟩))
  have Hb := Lib.hid hbo
  clear hb hbo d0 d1 d2 d3 a1 a2 a3
  go_wp2_with fail
  refine (check_at rfl rfl Hn.out (by decide) HE.out).mono ?_
  rintro e w2 ⟨rfl, hb2⟩
  have Hb2 := Lib.hid hb2
  clear hb2
  go_wp2
  go_ret
  exact ⟨rfl, Hb.out.trans (Hb2.out.mono Hb.out.size)⟩

set_option maxRecDepth 100000 in
set_option maxHeartbeats 4000000 in
theorem first_01111 (w : World) : Calls Try.prog 8 #[.bool false, .bool true, .bool true, .bool true, .bool true] w fun e w' => e = .returned (.bool true) ∧ Below w.heap.size w w' := by
  have HE : Hid (checkN ⟨[⟨sP, 0⟩], [⟨sP, 0, -1, [(1, 1)], [(0, 1), (0, 1)], []⟩]⟩ = 7) := Lib.hid (by decide)
  go_enter Try.func8, Try.ntmps8
  go_wp2_with fail
  refine (awake_any _).mono ?_
  rintro e w1 ⟨rfl, hb⟩
  have hz : w.heap.size + 5 ≤ w1.heap.size := by have := hb.size; simp at this; omega
  have d0 : CellsAre w1 w.heap.size 0 [.string sP, .int .i64 0] := CellsAre.below hb (by simp <;> omega) ⟨by go_simp, by go_simp, trivial⟩
  have d1 : CellsAre w1 (w.heap.size + 1) 0 [.int .i64 1, .int .i64 1] := CellsAre.below hb (by simp <;> omega) ⟨by go_simp, by go_simp, trivial⟩
  have d2 : CellsAre w1 (w.heap.size + 1 + 1) 0 [.string sP, .int .i64 0, .int .i64 (-1), .slice (some ⟨w.heap.size + 1, 0, none⟩) 1 1, .slice (some ⟨w.heap.size + 1 + 1 + 1 + 1, 0, none⟩) 2 2, .slice none 0 0] := CellsAre.below hb (by simp <;> omega) ⟨by go_simp, by go_simp, by go_simp, by go_simp, by go_simp, by go_simp, trivial⟩
  have d3 : CellsAre w1 (w.heap.size + 1 + 1 + 1) 0 [.slice (some ⟨w.heap.size, 0, none⟩) 1 1, .slice (some ⟨w.heap.size + 1 + 1, 0, none⟩) 1 1] := CellsAre.below hb (by simp <;> omega) ⟨by go_simp, by go_simp, trivial⟩
  have b0 := d3.1
  have b1 := d3.2.1
  have d4 : CellsAre w1 (w.heap.size + 1 + 1 + 1 + 1) 0 [.int .i64 0, .int .i64 1, .int .i64 0, .int .i64 1] := CellsAre.below hb (by simp <;> omega) ⟨by go_simp, by go_simp, by go_simp, by go_simp, trivial⟩
  have hbo : Below w.heap.size w w1 := by
    refine Below.trans ?_ (hb.mono (by simp <;> omega))
    exact ((((((Below.refl _ w).alloc (Nat.le_refl _) _).alloc (by simp <;> omega) _).alloc (by simp <;> omega) _).alloc (by simp <;> omega) _).alloc (by simp <;> omega) _)
  have a1 : ArcsAt w1 (.slice (some ⟨w.heap.size + 1, 0, none⟩) 1 1) [(1, 1)] := CellsAre.row d1 (by omega) rfl (by omega) (by omega)
  have a2 : ArcsAt w1 (.slice (some ⟨w.heap.size + 1 + 1 + 1 + 1, 0, none⟩) 2 2) [(0, 1), (0, 1)] := CellsAre.row d4 (by omega) rfl (by omega) (by omega)
  have a3 : ArcsAt w1 (.slice none 0 0) [] := arcsAt_nil _
  have Hn : Hid (NetAt w1 (.slice (some ⟨w.heap.size, 0, none⟩) 1 1) (.slice (some ⟨w.heap.size + 1 + 1, 0, none⟩) 1 1) ⟨[⟨sP, 0⟩], [⟨sP, 0, -1, [(1, 1)], [(0, 1), (0, 1)], []⟩]⟩) := Lib.hid (netAt_mk (CellsAre.row d0 (by omega) rfl (by omega) (by omega)) [(⟨sP, 0, -1, [(1, 1)], [(0, 1), (0, 1)], []⟩, .slice (some ⟨w.heap.size + 1, 0, none⟩) 1 1, .slice (some ⟨w.heap.size + 1 + 1 + 1 + 1, 0, none⟩) 2 2, .slice none 0 0)] rfl (CellsAre.row d2 (by omega) rfl (by omega) (by omega)) (fun x hx => by simp only [List.mem_singleton] at hx; subst hx; exact ⟨a1, a2, a3⟩))
  have Hb := Lib.hid hbo
  clear hb hbo d0 d1 d2 d3 a1 a2 a3 d4
  go_wp2_with fail
  refine (check_at rfl rfl Hn.out (by decide) HE.out).mono ?_
  rintro e w2 ⟨rfl, hb2⟩
  have Hb2 := Lib.hid hb2
  clear hb2
  go_wp2
  go_ret
  exact ⟨rfl, Hb.out.trans (Hb2.out.mono Hb.out.size)⟩

end Go.Proofs.Ytjkkddocopolcaa
