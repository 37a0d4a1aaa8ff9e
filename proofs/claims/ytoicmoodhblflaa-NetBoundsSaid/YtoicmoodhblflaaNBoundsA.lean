/-
  The walk of the law NetBounds: for all its inputs it returns true.
  Conditions: none.
-/
import Derived.Test.YtoicmoodhblflaaNBoundsB
namespace Go.Proofs.Ytoicmoodhblflaa
open Go.RowKit
set_option linter.unusedVariables false

theorem arcsNil (w : World) : ArcsAt w (.slice none 0 0) [] := RowAt.nil 2 w

set_option maxRecDepth 100000 in
set_option maxHeartbeats 2000000 in
theorem nb_30 (a : Nat) (ha : a < 256) (hk : (a : Int) % 6 = 3) (w : World) : Calls Try.prog 3 #[.int .u8 (a : Int), .bool false] w fun e w' => e = .returned (.bool true) ∧ Below w.heap.size w w' := by
  have HE : Hid (checkN ⟨[⟨tP, 1000000⟩], [⟨tT, 0, 0, [], [], []⟩]⟩ = 0) := Lib.hid (by decide)
  go_enter Try.func3, Try.ntmps3
  go_wp2_with fail
  refine (awake_any _).mono ?_
  rintro e w1 ⟨rfl, hb⟩
  have hz : w.heap.size + 3 ≤ w1.heap.size := by have := hb.size; simp at this; omega
  have d0 : CellsAre w1 w.heap.size 0 [.string tP, .int .i64 1000000] := CellsAre.below hb (by simp <;> omega) ⟨by go_simp, by go_simp, trivial⟩
  have d1 : CellsAre w1 (w.heap.size + 1) 0 [.string tT, .int .i64 0, .int .i64 0, (.slice none 0 0), (.slice none 0 0), .slice none 0 0] := CellsAre.below hb (by simp <;> omega) ⟨by go_simp, by go_simp, by go_simp, by go_simp, by go_simp, by go_simp, trivial⟩
  have d2 : CellsAre w1 (w.heap.size + 1 + 1) 0 [.slice (some ⟨w.heap.size, 0, none⟩) 1 1, .slice (some ⟨w.heap.size + 1, 0, none⟩) 1 1] := CellsAre.below hb (by simp <;> omega) ⟨by go_simp, by go_simp, trivial⟩
  have b0 := d2.1
  have b1 := d2.2.1
  have hbo : Below w.heap.size w w1 := by
    refine Below.trans ?_ (hb.mono (by simp <;> omega))
    exact (((Below.refl _ w).alloc (Nat.le_refl _) _).alloc (by simp <;> omega) _).alloc (by simp <;> omega) _
  have Hn : Hid (NetAt w1 (.slice (some ⟨w.heap.size, 0, none⟩) 1 1) (.slice (some ⟨w.heap.size + 1, 0, none⟩) 1 1) ⟨[⟨tP, 1000000⟩], [⟨tT, 0, 0, [], [], []⟩]⟩) := Lib.hid (netAt_mk (CellsAre.row d0 (by omega) rfl (by omega) (by omega)) [(⟨tT, 0, 0, [], [], []⟩, (.slice none 0 0), (.slice none 0 0), .slice none 0 0)] rfl (CellsAre.row d1 (by omega) rfl (by omega) (by omega)) (fun x hx => by
    rw [List.mem_singleton] at hx
    subst hx
    exact ⟨arcsNil _, arcsNil _, arcsNil _⟩))
  have Hb := Lib.hid hbo
  clear hb hbo d0 d1 d2
  go_wp2_with fail
  refine (check_at rfl rfl Hn.out (by decide) HE.out).mono ?_
  rintro e w2 ⟨rfl, hb2⟩
  have Hb2 := Lib.hid hb2
  clear hb2
  go_wp2
  go_ret
  exact ⟨rfl, Hb.out.trans (Hb2.out.mono Hb.out.size)⟩

set_option maxRecDepth 100000 in
set_option maxHeartbeats 2000000 in
theorem nb_31 (a : Nat) (ha : a < 256) (hk : (a : Int) % 6 = 3) (w : World) : Calls Try.prog 3 #[.int .u8 (a : Int), .bool true] w fun e w' => e = .returned (.bool true) ∧ Below w.heap.size w w' := by
  have HE : Hid (checkN ⟨[⟨tP, 1000001⟩], [⟨tT, 0, 0, [], [], []⟩]⟩ = 3) := Lib.hid (by decide)
  go_enter Try.func3, Try.ntmps3
  go_wp2_with fail
  refine (awake_any _).mono ?_
  rintro e w1 ⟨rfl, hb⟩
  have hz : w.heap.size + 3 ≤ w1.heap.size := by have := hb.size; simp at this; omega
  have d0 : CellsAre w1 w.heap.size 0 [.string tP, .int .i64 1000001] := CellsAre.below hb (by simp <;> omega) ⟨by go_simp, by go_simp, trivial⟩
  have d1 : CellsAre w1 (w.heap.size + 1) 0 [.string tT, .int .i64 0, .int .i64 0, (.slice none 0 0), (.slice none 0 0), .slice none 0 0] := CellsAre.below hb (by simp <;> omega) ⟨by go_simp, by go_simp, by go_simp, by go_simp, by go_simp, by go_simp, trivial⟩
  have d2 : CellsAre w1 (w.heap.size + 1 + 1) 0 [.slice (some ⟨w.heap.size, 0, none⟩) 1 1, .slice (some ⟨w.heap.size + 1, 0, none⟩) 1 1] := CellsAre.below hb (by simp <;> omega) ⟨by go_simp, by go_simp, trivial⟩
  have b0 := d2.1
  have b1 := d2.2.1
  have hbo : Below w.heap.size w w1 := by
    refine Below.trans ?_ (hb.mono (by simp <;> omega))
    exact (((Below.refl _ w).alloc (Nat.le_refl _) _).alloc (by simp <;> omega) _).alloc (by simp <;> omega) _
  have Hn : Hid (NetAt w1 (.slice (some ⟨w.heap.size, 0, none⟩) 1 1) (.slice (some ⟨w.heap.size + 1, 0, none⟩) 1 1) ⟨[⟨tP, 1000001⟩], [⟨tT, 0, 0, [], [], []⟩]⟩) := Lib.hid (netAt_mk (CellsAre.row d0 (by omega) rfl (by omega) (by omega)) [(⟨tT, 0, 0, [], [], []⟩, (.slice none 0 0), (.slice none 0 0), .slice none 0 0)] rfl (CellsAre.row d1 (by omega) rfl (by omega) (by omega)) (fun x hx => by
    rw [List.mem_singleton] at hx
    subst hx
    exact ⟨arcsNil _, arcsNil _, arcsNil _⟩))
  have Hb := Lib.hid hbo
  clear hb hbo d0 d1 d2
  go_wp2_with fail
  refine (check_at rfl rfl Hn.out (by decide) HE.out).mono ?_
  rintro e w2 ⟨rfl, hb2⟩
  have Hb2 := Lib.hid hb2
  clear hb2
  go_wp2
  go_ret
  exact ⟨rfl, Hb.out.trans (Hb2.out.mono Hb.out.size)⟩

set_option maxRecDepth 100000 in
set_option maxHeartbeats 2000000 in
theorem nb_40 (a : Nat) (ha : a < 256) (hk : (a : Int) % 6 = 4) (w : World) : Calls Try.prog 3 #[.int .u8 (a : Int), .bool false] w fun e w' => e = .returned (.bool true) ∧ Below w.heap.size w w' := by
  have HE : Hid (checkN ⟨[⟨tP, 0⟩], [⟨tT, 0, 0, [(0, 1000000)], [], []⟩]⟩ = 0) := Lib.hid (by decide)
  go_enter Try.func3, Try.ntmps3
  go_wp2_with fail
  refine (awake_any _).mono ?_
  rintro e w1 ⟨rfl, hb⟩
  have hz : w.heap.size + 4 ≤ w1.heap.size := by have := hb.size; simp at this; omega
  have d0 : CellsAre w1 w.heap.size 0 [.string tP, .int .i64 0] := CellsAre.below hb (by simp <;> omega) ⟨by go_simp, by go_simp, trivial⟩
  have d1 : CellsAre w1 (w.heap.size + 1) 0 [.string tT, .int .i64 0, .int .i64 0, (.slice (some ⟨w.heap.size + 1 + 1 + 1, 0, none⟩) 1 1), (.slice none 0 0), .slice none 0 0] := CellsAre.below hb (by simp <;> omega) ⟨by go_simp, by go_simp, by go_simp, by go_simp, by go_simp, by go_simp, trivial⟩
  have d2 : CellsAre w1 (w.heap.size + 1 + 1) 0 [.slice (some ⟨w.heap.size, 0, none⟩) 1 1, .slice (some ⟨w.heap.size + 1, 0, none⟩) 1 1] := CellsAre.below hb (by simp <;> omega) ⟨by go_simp, by go_simp, trivial⟩
  have d3 : CellsAre w1 (w.heap.size + 1 + 1 + 1) 0 [.int .i64 0, .int .i64 (1000000)] := CellsAre.below hb (by simp <;> omega) ⟨by go_simp, by go_simp, trivial⟩
  have a3 : ArcsAt w1 (.slice (some ⟨w.heap.size + 1 + 1 + 1, 0, none⟩) 1 1) [(0, 1000000)] := CellsAre.row d3 (by omega) rfl (by omega) (by omega)
  have b0 := d2.1
  have b1 := d2.2.1
  have hbo : Below w.heap.size w w1 := by
    refine Below.trans ?_ (hb.mono (by simp <;> omega))
    exact ((((Below.refl _ w).alloc (Nat.le_refl _) _).alloc (by simp <;> omega) _).alloc (by simp <;> omega) _).alloc (by simp <;> omega) _
  have Hn : Hid (NetAt w1 (.slice (some ⟨w.heap.size, 0, none⟩) 1 1) (.slice (some ⟨w.heap.size + 1, 0, none⟩) 1 1) ⟨[⟨tP, 0⟩], [⟨tT, 0, 0, [(0, 1000000)], [], []⟩]⟩) := Lib.hid (netAt_mk (CellsAre.row d0 (by omega) rfl (by omega) (by omega)) [(⟨tT, 0, 0, [(0, 1000000)], [], []⟩, (.slice (some ⟨w.heap.size + 1 + 1 + 1, 0, none⟩) 1 1), (.slice none 0 0), .slice none 0 0)] rfl (CellsAre.row d1 (by omega) rfl (by omega) (by omega)) (fun x hx => by
    rw [List.mem_singleton] at hx
    subst hx
    exact ⟨a3, arcsNil _, arcsNil _⟩))
  have Hb := Lib.hid hbo
  clear hb hbo d0 d1 d2 d3 a3
  go_wp2_with fail
  refine (check_at rfl rfl Hn.out (by decide) HE.out).mono ?_
  rintro e w2 ⟨rfl, hb2⟩
  have Hb2 := Lib.hid hb2
  clear hb2
  go_wp2
  go_ret
  exact ⟨rfl, Hb.out.trans (Hb2.out.mono Hb.out.size)⟩

set_option maxRecDepth 100000 in
set_option maxHeartbeats 2000000 in
theorem nb_41 (a : Nat) (ha : a < 256) (hk : (a : Int) % 6 = 4) (w : World) : Calls Try.prog 3 #[.int .u8 (a : Int), .bool true] w fun e w' => e = .returned (.bool true) ∧ Below w.heap.size w w' := by
  have HE : Hid (checkN ⟨[⟨tP, 0⟩], [⟨tT, 0, 0, [(0, 1000001)], [], []⟩]⟩ = 3) := Lib.hid (by decide)
  go_enter Try.func3, Try.ntmps3
  go_wp2_with fail
  refine (awake_any _).mono ?_
  rintro e w1 ⟨rfl, hb⟩
  have hz : w.heap.size + 4 ≤ w1.heap.size := by have := hb.size; simp at this; omega
  have d0 : CellsAre w1 w.heap.size 0 [.string tP, .int .i64 0] := CellsAre.below hb (by simp <;> omega) ⟨by go_simp, by go_simp, trivial⟩
  have d1 : CellsAre w1 (w.heap.size + 1) 0 [.string tT, .int .i64 0, .int .i64 0, (.slice (some ⟨w.heap.size + 1 + 1 + 1, 0, none⟩) 1 1), (.slice none 0 0), .slice none 0 0] := CellsAre.below hb (by simp <;> omega) ⟨by go_simp, by go_simp, by go_simp, by go_simp, by go_simp, by go_simp, trivial⟩
  have d2 : CellsAre w1 (w.heap.size + 1 + 1) 0 [.slice (some ⟨w.heap.size, 0, none⟩) 1 1, .slice (some ⟨w.heap.size + 1, 0, none⟩) 1 1] := CellsAre.below hb (by simp <;> omega) ⟨by go_simp, by go_simp, trivial⟩
  have d3 : CellsAre w1 (w.heap.size + 1 + 1 + 1) 0 [.int .i64 0, .int .i64 (1000001)] := CellsAre.below hb (by simp <;> omega) ⟨by go_simp, by go_simp, trivial⟩
  have a3 : ArcsAt w1 (.slice (some ⟨w.heap.size + 1 + 1 + 1, 0, none⟩) 1 1) [(0, 1000001)] := CellsAre.row d3 (by omega) rfl (by omega) (by omega)
  have b0 := d2.1
  have b1 := d2.2.1
  have hbo : Below w.heap.size w w1 := by
    refine Below.trans ?_ (hb.mono (by simp <;> omega))
    exact ((((Below.refl _ w).alloc (Nat.le_refl _) _).alloc (by simp <;> omega) _).alloc (by simp <;> omega) _).alloc (by simp <;> omega) _
  have Hn : Hid (NetAt w1 (.slice (some ⟨w.heap.size, 0, none⟩) 1 1) (.slice (some ⟨w.heap.size + 1, 0, none⟩) 1 1) ⟨[⟨tP, 0⟩], [⟨tT, 0, 0, [(0, 1000001)], [], []⟩]⟩) := Lib.hid (netAt_mk (CellsAre.row d0 (by omega) rfl (by omega) (by omega)) [(⟨tT, 0, 0, [(0, 1000001)], [], []⟩, (.slice (some ⟨w.heap.size + 1 + 1 + 1, 0, none⟩) 1 1), (.slice none 0 0), .slice none 0 0)] rfl (CellsAre.row d1 (by omega) rfl (by omega) (by omega)) (fun x hx => by
    rw [List.mem_singleton] at hx
    subst hx
    exact ⟨a3, arcsNil _, arcsNil _⟩))
  have Hb := Lib.hid hbo
  clear hb hbo d0 d1 d2 d3 a3
  go_wp2_with fail
  refine (check_at rfl rfl Hn.out (by decide) HE.out).mono ?_
  rintro e w2 ⟨rfl, hb2⟩
  have Hb2 := Lib.hid hb2
  clear hb2
  go_wp2
  go_ret
  exact ⟨rfl, Hb.out.trans (Hb2.out.mono Hb.out.size)⟩

set_option maxRecDepth 100000 in
set_option maxHeartbeats 2000000 in
theorem nb_50 (a : Nat) (ha : a < 256) (hk : (a : Int) % 6 = 5) (w : World) : Calls Try.prog 3 #[.int .u8 (a : Int), .bool false] w fun e w' => e = .returned (.bool true) ∧ Below w.heap.size w w' := by
  have HE : Hid (checkN ⟨[⟨tP, 0⟩], [⟨tT, 0, 0, [], [(0, 1)], []⟩]⟩ = 0) := Lib.hid (by decide)
  go_enter Try.func3, Try.ntmps3
  go_wp2_with fail
  refine (awake_any _).mono ?_
  rintro e w1 ⟨rfl, hb⟩
  have hz : w.heap.size + 4 ≤ w1.heap.size := by have := hb.size; simp at this; omega
  have d0 : CellsAre w1 w.heap.size 0 [.string tP, .int .i64 0] := CellsAre.below hb (by simp <;> omega) ⟨by go_simp, by go_simp, trivial⟩
  have d1 : CellsAre w1 (w.heap.size + 1) 0 [.string tT, .int .i64 0, .int .i64 0, (.slice none 0 0), (.slice (some ⟨w.heap.size + 1 + 1 + 1, 0, none⟩) 1 1), .slice none 0 0] := CellsAre.below hb (by simp <;> omega) ⟨by go_simp, by go_simp, by go_simp, by go_simp, by go_simp, by go_simp, trivial⟩
  have d2 : CellsAre w1 (w.heap.size + 1 + 1) 0 [.slice (some ⟨w.heap.size, 0, none⟩) 1 1, .slice (some ⟨w.heap.size + 1, 0, none⟩) 1 1] := CellsAre.below hb (by simp <;> omega) ⟨by go_simp, by go_simp, trivial⟩
  have d3 : CellsAre w1 (w.heap.size + 1 + 1 + 1) 0 [.int .i64 0, .int .i64 (1)] := CellsAre.below hb (by simp <;> omega) ⟨by go_simp, by go_simp, trivial⟩
  have a3 : ArcsAt w1 (.slice (some ⟨w.heap.size + 1 + 1 + 1, 0, none⟩) 1 1) [(0, 1)] := CellsAre.row d3 (by omega) rfl (by omega) (by omega)
  have b0 := d2.1
  have b1 := d2.2.1
  have hbo : Below w.heap.size w w1 := by
    refine Below.trans ?_ (hb.mono (by simp <;> omega))
    exact ((((Below.refl _ w).alloc (Nat.le_refl _) _).alloc (by simp <;> omega) _).alloc (by simp <;> omega) _).alloc (by simp <;> omega) _
  have Hn : Hid (NetAt w1 (.slice (some ⟨w.heap.size, 0, none⟩) 1 1) (.slice (some ⟨w.heap.size + 1, 0, none⟩) 1 1) ⟨[⟨tP, 0⟩], [⟨tT, 0, 0, [], [(0, 1)], []⟩]⟩) := Lib.hid (netAt_mk (CellsAre.row d0 (by omega) rfl (by omega) (by omega)) [(⟨tT, 0, 0, [], [(0, 1)], []⟩, (.slice none 0 0), (.slice (some ⟨w.heap.size + 1 + 1 + 1, 0, none⟩) 1 1), .slice none 0 0)] rfl (CellsAre.row d1 (by omega) rfl (by omega) (by omega)) (fun x hx => by
    rw [List.mem_singleton] at hx
    subst hx
    exact ⟨arcsNil _, a3, arcsNil _⟩))
  have Hb := Lib.hid hbo
  clear hb hbo d0 d1 d2 d3 a3
  go_wp2_with fail
  refine (check_at rfl rfl Hn.out (by decide) HE.out).mono ?_
  rintro e w2 ⟨rfl, hb2⟩
  have Hb2 := Lib.hid hb2
  clear hb2
  go_wp2
  go_ret
  exact ⟨rfl, Hb.out.trans (Hb2.out.mono Hb.out.size)⟩

set_option maxRecDepth 100000 in
set_option maxHeartbeats 2000000 in
theorem nb_51 (a : Nat) (ha : a < 256) (hk : (a : Int) % 6 = 5) (w : World) : Calls Try.prog 3 #[.int .u8 (a : Int), .bool true] w fun e w' => e = .returned (.bool true) ∧ Below w.heap.size w w' := by
  have HE : Hid (checkN ⟨[⟨tP, 0⟩], [⟨tT, 0, 0, [], [(0, 0)], []⟩]⟩ = 3) := Lib.hid (by decide)
  go_enter Try.func3, Try.ntmps3
  go_wp2_with fail
  refine (awake_any _).mono ?_
  rintro e w1 ⟨rfl, hb⟩
  have hz : w.heap.size + 4 ≤ w1.heap.size := by have := hb.size; simp at this; omega
  have d0 : CellsAre w1 w.heap.size 0 [.string tP, .int .i64 0] := CellsAre.below hb (by simp <;> omega) ⟨by go_simp, by go_simp, trivial⟩
  have d1 : CellsAre w1 (w.heap.size + 1) 0 [.string tT, .int .i64 0, .int .i64 0, (.slice none 0 0), (.slice (some ⟨w.heap.size + 1 + 1 + 1, 0, none⟩) 1 1), .slice none 0 0] := CellsAre.below hb (by simp <;> omega) ⟨by go_simp, by go_simp, by go_simp, by go_simp, by go_simp, by go_simp, trivial⟩
  have d2 : CellsAre w1 (w.heap.size + 1 + 1) 0 [.slice (some ⟨w.heap.size, 0, none⟩) 1 1, .slice (some ⟨w.heap.size + 1, 0, none⟩) 1 1] := CellsAre.below hb (by simp <;> omega) ⟨by go_simp, by go_simp, trivial⟩
  have d3 : CellsAre w1 (w.heap.size + 1 + 1 + 1) 0 [.int .i64 0, .int .i64 (0)] := CellsAre.below hb (by simp <;> omega) ⟨by go_simp, by go_simp, trivial⟩
  have a3 : ArcsAt w1 (.slice (some ⟨w.heap.size + 1 + 1 + 1, 0, none⟩) 1 1) [(0, 0)] := CellsAre.row d3 (by omega) rfl (by omega) (by omega)
  have b0 := d2.1
  have b1 := d2.2.1
  have hbo : Below w.heap.size w w1 := by
    refine Below.trans ?_ (hb.mono (by simp <;> omega))
    exact ((((Below.refl _ w).alloc (Nat.le_refl _) _).alloc (by simp <;> omega) _).alloc (by simp <;> omega) _).alloc (by simp <;> omega) _
  have Hn : Hid (NetAt w1 (.slice (some ⟨w.heap.size, 0, none⟩) 1 1) (.slice (some ⟨w.heap.size + 1, 0, none⟩) 1 1) ⟨[⟨tP, 0⟩], [⟨tT, 0, 0, [], [(0, 0)], []⟩]⟩) := Lib.hid (netAt_mk (CellsAre.row d0 (by omega) rfl (by omega) (by omega)) [(⟨tT, 0, 0, [], [(0, 0)], []⟩, (.slice none 0 0), (.slice (some ⟨w.heap.size + 1 + 1 + 1, 0, none⟩) 1 1), .slice none 0 0)] rfl (CellsAre.row d1 (by omega) rfl (by omega) (by omega)) (fun x hx => by
    rw [List.mem_singleton] at hx
    subst hx
    exact ⟨arcsNil _, a3, arcsNil _⟩))
  have Hb := Lib.hid hbo
  clear hb hbo d0 d1 d2 d3 a3
  go_wp2_with fail
  refine (check_at rfl rfl Hn.out (by decide) HE.out).mono ?_
  rintro e w2 ⟨rfl, hb2⟩
  have Hb2 := Lib.hid hb2
  clear hb2
  go_wp2
  go_ret
  exact ⟨rfl, Hb.out.trans (Hb2.out.mono Hb.out.size)⟩

end Go.Proofs.Ytoicmoodhblflaa
