/-
  The walks of the laws MarkBounds and MarkBoth.
  Conditions: none beyond each theorem's own.
-/
import Derived.Test.YtpllpofoclijlaaMarkW
import Derived.Test.YtpllpofoclijlaaMarkI
namespace Go.Proofs.Ytpllpofoclijlaa
open Go.RowKit
set_option linter.unusedVariables false

theorem arcs1_at {W : World} {b : Nat} {x y : Int} (hb : b < W.heap.size) (c0 : W.cell? ⟨b, 0, none⟩ = some (.int .i64 x)) (c1 : W.cell? ⟨b, 1, none⟩ = some (.int .i64 y)) : ArcsAt W (.slice (some ⟨b, 0, none⟩) 1 1) [(x, y)] :=
  CellsAre.row (w := W) (b := b) (size := 2) (n := 1) (cap := 1) (xs := [.int .i64 x, .int .i64 y]) ⟨c0, c1, trivial⟩ hb rfl (Nat.le_refl _) (by omega)
theorem ints1_at {W : World} {b : Nat} {x : Int} (hb : b < W.heap.size) (c0 : W.cell? ⟨b, 0, none⟩ = some (.int .i64 x)) : IntsAt W (.slice (some ⟨b, 0, none⟩) 1 1) [x] :=
  CellsAre.row (w := W) (b := b) (size := 1) (n := 1) (cap := 1) (xs := [.int .i64 x]) ⟨c0, trivial⟩ hb rfl (Nat.le_refl _) (by omega)

theorem fits0 (z : Int) : Fits ([z] : List Int).length [] := fun a ha => by cases ha
theorem fits1 (z y : Int) : Fits ([z] : List Int).length [(0, y)] := fun a ha => by simp at ha; subst ha; exact ⟨Int.le_refl _, by simp⟩
/-- a transition's box, and its lists of one arc, or none -/
structure TBox (w : World) (b : Nat) (a1 : Option Addr) (n1 c1 : Nat) (a2 : Option Addr) (n2 c2 : Nat) (li ln : List (Int × Int)) : Prop where
  lt : b < w.heap.size
  x0 : w.cell? ⟨b, 0, none⟩ = some (.string { data := #[] })
  x1 : w.cell? ⟨b, 1, none⟩ = some (.int .i64 0)
  x2 : w.cell? ⟨b, 2, none⟩ = some (.int .i64 0)
  x3 : w.cell? ⟨b, 3, none⟩ = some (.slice a1 n1 c1)
  x4 : w.cell? ⟨b, 4, none⟩ = some (.slice a2 n2 c2)
  x5 : w.cell? ⟨b, 5, none⟩ = some (.slice none 0 0)
  l1 : ArcsAt w (.slice a1 n1 c1) li
  l2 : ArcsAt w (.slice a2 n2 c2) ln
  e1 : n1 = li.length
  e2 : n2 = ln.length
section
variable {w w' : World} {b : Nat} {a1 a2 : Option Addr} {n1 c1 n2 c2 : Nat} {li ln : List (Int × Int)}
theorem TBox.go (h : TBox w b a1 n1 c1 a2 n2 c2 li ln) (hb : Below w.heap.size w w') : TBox w' b a1 n1 c1 a2 n2 c2 li ln :=
  ⟨Nat.lt_of_lt_of_le h.lt hb.size, (hb.cell h.lt).trans h.x0, (hb.cell h.lt).trans h.x1, (hb.cell h.lt).trans h.x2, (hb.cell h.lt).trans h.x3, (hb.cell h.lt).trans h.x4, (hb.cell h.lt).trans h.x5, h.l1.below hb, h.l2.below hb, h.e1, h.e2⟩
/-- May of it, with marks of one number in a block that is new -/
theorem TBox.may (h : TBox w b a1 n1 c1 a2 n2 c2 li ln) (z : Int) (f1 : Fits 1 li) (f2 : Fits 1 ln) (q : Bool) (hq : q = mayB [z] li ln) :
    Calls Try.prog 16 #[trV { data := #[] } 0 0 a1 n1 c1 a2 n2 c2 none 0 0, .slice (some ⟨w.heap.size, 0, none⟩) 1 1] (w.alloc (.cells #[.int .i64 z] 3)) fun e w' => e = .returned (.bool q) ∧ Below w.heap.size w w' := by
  have hb : Below w.heap.size w (w.alloc (.cells #[.int .i64 z] 3)) := (Below.refl _ _).alloc (Nat.le_refl _) _
  exact (may_any h.e1 h.e2 rfl (h.l1.below hb) (h.l2.below hb) (ints1_at (x := z) (by simp) (by go_simp)) f1 f2 q hq).mono fun e w' g => ⟨g.1, hb.trans (g.2.mono hb.size)⟩
end
theorem may_none (w : World) : Calls Try.prog 16 #[trV { data := #[] } 0 0 none 0 0 none 0 0 none 0 0, .slice none 0 0] w fun e w' => e = .returned (.bool true) ∧ Below w.heap.size w w' :=
  may_any (li := []) (ln := []) (m := []) rfl rfl rfl (RowAt.nil _ _) (RowAt.nil _ _) (RowAt.nil _ _) (fun a ha => by cases ha) (fun a ha => by cases ha) true rfl

theorem mayB_in (z y : Int) : mayB [z] [(0, y)] [] = decide (y ≤ z) := by
  unfold mayB shortA getI
  by_cases h : y ≤ z
  · simp [h]
  · simp [h]; omega
theorem mayB_not (z y : Int) : mayB [z] [] [(0, y)] = decide (z < y) := by
  unfold mayB fullA getI
  by_cases h : z < y
  · simp [h]
  · simp [h]; omega

set_option maxRecDepth 100000 in
set_option maxHeartbeats 4000000 in
theorem bounds_law (K : Nat) (hK : K < 256) (ask : Bool) (w : World) :
    Calls Try.prog 7 #[.int .u8 (K : Int), .bool ask] w fun e w' => e = .returned (.bool true) ∧ Below w.heap.size w w' := by
  have hKi : (K : Int) < 256 := by omega
  have hK0 : 0 ≤ (K : Int) := by omega
  cases ask
  · have hbox : TBox ((w.alloc (.cells #[.int .i64 0, .int .i64 (1 + (K : Int))] 37)).alloc (.cells #[.string { data := #[] }, .int .i64 0, .int .i64 0, .slice (some ⟨w.heap.size, 0, none⟩) 1 1, .slice none 0 0, .slice none 0 0] 40)) (w.heap.size + 1) (some ⟨w.heap.size, 0, none⟩) 1 1 none 0 0 [(0, 1 + (K : Int))] [] :=
      ⟨by simp, by go_simp, by go_simp, by go_simp, by go_simp, by go_simp, by go_simp, arcs1_at (by simp; omega) (by go_simp) (by go_simp), RowAt.nil _ _, rfl, rfl⟩
    have hb0 : Below w.heap.size w ((w.alloc (.cells #[.int .i64 0, .int .i64 (1 + (K : Int))] 37)).alloc (.cells #[.string { data := #[] }, .int .i64 0, .int .i64 0, .slice (some ⟨w.heap.size, 0, none⟩) 1 1, .slice none 0 0, .slice none 0 0] 40)) := ((Below.refl _ _).alloc (Nat.le_refl _) _).alloc (by simp) _
    have Hbox := Lib.hid hbox
    have Hb0 := Lib.hid hb0
    clear hbox hb0
    go_enter Try.func7, Try.ntmps7
    go_wp2_with fail
    refine (awake8_any _).mono ?_
    rintro e w1 ⟨rfl, hb⟩
    have Hx1 := Lib.hid (Hbox.out.go hb)
    have Hb1 := Lib.hid (Hb0.out.trans (hb.mono Hb0.out.size))
    obtain ⟨xlt, x0, x1, x2, x3, x4, x5, -, -, -, -⟩ := Hx1.out
    clear hb Hbox Hb0
    go_wp2_with fail
    refine (Hx1.out.may _ (fits1 0 _) (fits0 0) true (by rw [mayB_in]; simp)).mono ?_
    rintro e w2 ⟨rfl, hb⟩
    have Hx2 := Lib.hid (Hx1.out.go hb)
    have Hb2 := Lib.hid (Hb1.out.trans (hb.mono Hb1.out.size))
    clear x0 x1 x2 x3 x4 x5 xlt
    obtain ⟨xlt, x0, x1, x2, x3, x4, x5, -, -, -, -⟩ := Hx2.out
    clear hb Hx1 Hb1
    go_wp2_with fail
    refine (Hx2.out.may _ (fits1 0 _) (fits0 0) false (by rw [mayB_in]; symm; apply decide_eq_false; omega)).mono ?_
    rintro e w3 ⟨rfl, hb⟩
    have Hb3 := Lib.hid (Hb2.out.trans (hb.mono Hb2.out.size))
    clear hb Hx2 Hb2
    go_wp2_with fail
    refine (may_none _).mono ?_
    rintro e w4 ⟨rfl, hb⟩
    have Hb4 := Lib.hid (Hb3.out.trans (hb.mono Hb3.out.size))
    clear hb
    go_wp2
    go_ret
    exact ⟨rfl, Hb4.out⟩
  · have hbox : TBox (((w.alloc (.cells #[.int .i64 0, .int .i64 (1 + (K : Int))] 37)).alloc (.cells #[.string { data := #[] }, .int .i64 0, .int .i64 0, .slice none 0 0, .slice (some ⟨w.heap.size + 1 + 1, 0, none⟩) 1 1, .slice none 0 0] 40)).alloc (.cells #[.int .i64 0, .int .i64 (1 + (K : Int))] 37)) (w.heap.size + 1) none 0 0 (some ⟨w.heap.size + 1 + 1, 0, none⟩) 1 1 [] [(0, 1 + (K : Int))] :=
      ⟨by simp, by go_simp, by go_simp, by go_simp, by go_simp, by go_simp, by go_simp, RowAt.nil _ _, arcs1_at (by simp) (by go_simp) (by go_simp), rfl, rfl⟩
    have hb0 : Below w.heap.size w (((w.alloc (.cells #[.int .i64 0, .int .i64 (1 + (K : Int))] 37)).alloc (.cells #[.string { data := #[] }, .int .i64 0, .int .i64 0, .slice none 0 0, .slice (some ⟨w.heap.size + 1 + 1, 0, none⟩) 1 1, .slice none 0 0] 40)).alloc (.cells #[.int .i64 0, .int .i64 (1 + (K : Int))] 37)) := (((Below.refl _ _).alloc (Nat.le_refl _) _).alloc (by simp) _).alloc (by simp; omega) _
    have Hbox := Lib.hid hbox
    have Hb0 := Lib.hid hb0
    clear hbox hb0
    go_enter Try.func7, Try.ntmps7
    go_wp2_with fail
    refine (awake8_any _).mono ?_
    rintro e w1 ⟨rfl, hb⟩
    have Hx1 := Lib.hid (Hbox.out.go hb)
    have Hb1 := Lib.hid (Hb0.out.trans (hb.mono Hb0.out.size))
    obtain ⟨xlt, x0, x1, x2, x3, x4, x5, -, -, -, -⟩ := Hx1.out
    clear hb Hbox Hb0
    go_wp2_with fail
    refine (Hx1.out.may _ (fits0 0) (fits1 0 _) false (by rw [mayB_not]; simp)).mono ?_
    rintro e w2 ⟨rfl, hb⟩
    have Hx2 := Lib.hid (Hx1.out.go hb)
    have Hb2 := Lib.hid (Hb1.out.trans (hb.mono Hb1.out.size))
    clear x0 x1 x2 x3 x4 x5 xlt
    obtain ⟨xlt, x0, x1, x2, x3, x4, x5, -, -, -, -⟩ := Hx2.out
    clear hb Hx1 Hb1
    go_wp2_with fail
    refine (Hx2.out.may _ (fits0 0) (fits1 0 _) true (by rw [mayB_not]; symm; apply decide_eq_true; omega)).mono ?_
    rintro e w3 ⟨rfl, hb⟩
    have Hb3 := Lib.hid (Hb2.out.trans (hb.mono Hb2.out.size))
    clear hb Hx2 Hb2
    go_wp2_with fail
    refine (may_none _).mono ?_
    rintro e w4 ⟨rfl, hb⟩
    have Hb4 := Lib.hid (Hb3.out.trans (hb.mono Hb3.out.size))
    clear hb
    go_wp2
    go_ret
    exact ⟨rfl, Hb4.out⟩
end Go.Proofs.Ytpllpofoclijlaa
