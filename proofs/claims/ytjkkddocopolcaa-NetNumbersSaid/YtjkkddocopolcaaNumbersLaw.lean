/-
  The walk of the law NetNumbers: for every list, number and place it returns true.
  Conditions: none.
-/
import Derived.Test.YtjkkddocopolcaaNetHand
namespace Go.Proofs.Ytjkkddocopolcaa
open Go.RowKit
set_option linter.unusedVariables false

abbrev sP : ByteArray := { data := #[112] }
abbrev sQ : ByteArray := { data := #[113] }
abbrev sT : ByteArray := { data := #[116] }
/-- two places and a transition -/
def net2 (a b c : List (Int × Int)) : Nt := ⟨[⟨sP, 0⟩, ⟨sQ, 0⟩], [⟨sT, 0, 0, a, b, c⟩]⟩

theorem checkN_net2 (a b c : List (Int × Int)) (ha : a.length ≤ 8) (hb : b.length ≤ 8) (hc : c.length ≤ 8) : checkN (net2 a b c) = listsErr 2 [a, b, c] := by
  have h1 : tooLongB (net2 a b c) = false := by simp [tooLongB, net2, longT, Tr.most]; omega
  have h2 : namesBad [] (net2 a b c).names = false := by
    have e : (net2 a b c).names = [sP, sQ, sT] := rfl
    rw [e]; decide
  have h3 : placesBad (net2 a b c).places = false := by
    have e : (net2 a b c).places = [⟨sP, 0⟩, ⟨sQ, 0⟩] := rfl
    rw [e]; decide
  unfold checkN
  rw [if_neg (by rw [h1]; simp), if_neg (by rw [h2]; simp), if_neg (by rw [h3]; simp)]
  have e : (net2 a b c).trans = [⟨sT, 0, 0, a, b, c⟩] := rfl
  rw [e, transErr, if_neg (show ¬ (numB 0 0 && numB 0 0) = false by decide)]
  show (if listsErr 2 [a, b, c] = 0 then transErr 2 [] else listsErr 2 [a, b, c]) = _
  split
  · rename_i h; rw [h]; rfl
  · rfl

theorem one_arc (p k : Int) : arcsErr 2 [] [(p, k)] = if numB 1 k = false then 3 else if inP 2 p = false then 2 else 0 := by
  rw [arcsErr]; rfl

/-- what is asked of one arc -/
def want1 (p k : Int) : Int := if numB 1 k = false then 3 else if inP 2 p = false then 2 else 0
theorem net2_in (p k : Int) : checkN (net2 [(p, k)] [] []) = want1 p k := by
  rw [checkN_net2 _ _ _ (by simp) (by simp) (by simp), listsErr, one_arc]
  show (if want1 p k = 0 then listsErr 2 [[], []] else want1 p k) = _
  split
  · rename_i h; rw [h]; rfl
  · rfl
theorem net2_not (p k : Int) : checkN (net2 [] [(p, k)] []) = want1 p k := by
  rw [checkN_net2 _ _ _ (by simp) (by simp) (by simp), listsErr, if_pos (show arcsErr 2 [] [] = 0 from rfl), listsErr, one_arc]
  show (if want1 p k = 0 then listsErr 2 [[]] else want1 p k) = _
  split
  · rename_i h; rw [h]; rfl
  · rfl
theorem net2_out (p k : Int) : checkN (net2 [] [] [(p, k)]) = want1 p k := by
  rw [checkN_net2 _ _ _ (by simp) (by simp) (by simp), listsErr, if_pos (show arcsErr 2 [] [] = 0 from rfl), listsErr, if_pos (show arcsErr 2 [] [] = 0 from rfl), listsErr, one_arc]
  show (if want1 p k = 0 then listsErr 2 [] else want1 p k) = _
  split
  · rename_i h; rw [h]; rfl
  · rfl

theorem net2_names (a b c : List (Int × Int)) : ∀ s ∈ (net2 a b c).names, s.size ≤ 1000 := by
  intro s hs
  have e : (net2 a b c).names = [sP, sQ, sT] := rfl
  rw [e] at hs
  simp at hs
  rcases hs with rfl | rfl | rfl <;> decide

set_option maxRecDepth 100000 in
set_option maxHeartbeats 4000000 in
theorem numbers_in (l p k : Int) (w : World) (h0 : 0 ≤ l) (h1 : l ≤ 255) (hl : l % 3 = 0) :
    Calls Try.prog 9 #[.int .u8 l, .int .i64 k, .int .i64 p] w fun e w' => e = .returned (.bool true) ∧ Below w.heap.size w w' := by
  have hlb : (l % 3 == 0) = true := by simp [hl]
  clear hl
  have hw : (p < 0 ∧ decide (p < 0) = true) ∨ (¬ p < 0 ∧ decide (p < 0) = false ∧ 1 < p ∧ decide (1 < p) = true) ∨ (¬ p < 0 ∧ decide (p < 0) = false ∧ ¬ 1 < p ∧ decide (1 < p) = false) := by simp; omega
  have hv : (k < 1 ∧ decide (k < 1) = true) ∨ (¬ k < 1 ∧ decide (k < 1) = false ∧ 1000000 < k ∧ decide (1000000 < k) = true) ∨ (¬ k < 1 ∧ decide (k < 1) = false ∧ ¬ 1000000 < k ∧ decide (1000000 < k) = false) := by simp; omega
  rcases hw with ⟨p1, p2⟩ | ⟨p1, p2, p3, p4⟩ | ⟨p1, p2, p3, p4⟩
  · rcases hv with ⟨k1, k2⟩ | ⟨k1, k2, k3, k4⟩ | ⟨k1, k2, k3, k4⟩
    · have HE : Hid (checkN (net2 [(p, k)] [] []) = 3) := Lib.hid (by rw [net2_in, want1, if_pos (by simp [numB]; omega)])
      go_enter Try.func9, Try.ntmps9
      go_wp2_with fail
      refine (awake_any _).mono ?_
      rintro e w1 ⟨rfl, hb⟩
      have hz : w.heap.size + 4 ≤ w1.heap.size := by have := hb.size; simp at this; omega
      have d0 : CellsAre w1 w.heap.size 0 [.string sP, .int .i64 0, .string sQ, .int .i64 0] := CellsAre.below hb (by simp <;> omega) ⟨by go_simp, by go_simp, by go_simp, by go_simp, trivial⟩
      have d1 : CellsAre w1 (w.heap.size + 1) 0 [.string sT, .int .i64 0, .int .i64 0, .slice (some ⟨w.heap.size + 1 + 1 + 1, 0, none⟩) 1 1, .slice none 0 0, .slice none 0 0] := CellsAre.below hb (by simp <;> omega) ⟨by go_simp, by go_simp, by go_simp, by go_simp, by go_simp, by go_simp, trivial⟩
      have d3 : CellsAre w1 (w.heap.size + 1 + 1 + 1) 0 [.int .i64 p, .int .i64 k] := CellsAre.below hb (by simp <;> omega) ⟨by go_simp, by go_simp, trivial⟩
      have d2 : CellsAre w1 (w.heap.size + 1 + 1) 0 [.slice (some ⟨w.heap.size, 0, none⟩) 2 2, .slice (some ⟨w.heap.size + 1, 0, none⟩) 1 1] := CellsAre.below hb (by simp <;> omega) ⟨by go_simp, by go_simp, trivial⟩
      have b0 := d2.1
      have b1 := d2.2.1
      have hbo : Below w.heap.size w w1 := by
        refine Below.trans ?_ (hb.mono (by simp <;> omega))
        exact ((((Below.refl _ w).alloc (Nat.le_refl _) _).alloc (by simp) _).alloc (by simp <;> omega) _).alloc (by simp <;> omega) _
      have a0 : ArcsAt w1 (.slice (some ⟨w.heap.size + 1 + 1 + 1, 0, none⟩) 1 1) [(p, k)] := CellsAre.row d3 (by omega) rfl (by omega) (by omega)
      have Hn : Hid (NetAt w1 (.slice (some ⟨w.heap.size, 0, none⟩) 2 2) (.slice (some ⟨w.heap.size + 1, 0, none⟩) 1 1) (net2 [(p, k)] [] [])) := Lib.hid (netAt_mk (CellsAre.row d0 (by omega) rfl (by omega) (by omega)) [(⟨sT, 0, 0, [(p, k)], [], []⟩, .slice (some ⟨w.heap.size + 1 + 1 + 1, 0, none⟩) 1 1, .slice none 0 0, .slice none 0 0)] rfl (CellsAre.row d1 (by omega) rfl (by omega) (by omega)) (fun x hx => by simp at hx; subst hx; exact ⟨a0, arcsAt_nil _, arcsAt_nil _⟩))
      have Hb := Lib.hid hbo
      clear hb hbo d0 d1 d2 d3 a0
      go_wp2_with fail
      refine (check_at rfl rfl Hn.out (net2_names _ _ _) HE.out).mono ?_
      rintro e w2 ⟨rfl, hb2⟩
      have Hb2 := Lib.hid hb2
      clear hb2
      go_wp2
      go_ret
      exact ⟨rfl, Hb.out.trans (Hb2.out.mono Hb.out.size)⟩
    · have HE : Hid (checkN (net2 [(p, k)] [] []) = 3) := Lib.hid (by rw [net2_in, want1, if_pos (by simp [numB]; omega)])
      go_enter Try.func9, Try.ntmps9
      go_wp2_with fail
      refine (awake_any _).mono ?_
      rintro e w1 ⟨rfl, hb⟩
      have hz : w.heap.size + 4 ≤ w1.heap.size := by have := hb.size; simp at this; omega
      have d0 : CellsAre w1 w.heap.size 0 [.string sP, .int .i64 0, .string sQ, .int .i64 0] := CellsAre.below hb (by simp <;> omega) ⟨by go_simp, by go_simp, by go_simp, by go_simp, trivial⟩
      have d1 : CellsAre w1 (w.heap.size + 1) 0 [.string sT, .int .i64 0, .int .i64 0, .slice (some ⟨w.heap.size + 1 + 1 + 1, 0, none⟩) 1 1, .slice none 0 0, .slice none 0 0] := CellsAre.below hb (by simp <;> omega) ⟨by go_simp, by go_simp, by go_simp, by go_simp, by go_simp, by go_simp, trivial⟩
      have d3 : CellsAre w1 (w.heap.size + 1 + 1 + 1) 0 [.int .i64 p, .int .i64 k] := CellsAre.below hb (by simp <;> omega) ⟨by go_simp, by go_simp, trivial⟩
      have d2 : CellsAre w1 (w.heap.size + 1 + 1) 0 [.slice (some ⟨w.heap.size, 0, none⟩) 2 2, .slice (some ⟨w.heap.size + 1, 0, none⟩) 1 1] := CellsAre.below hb (by simp <;> omega) ⟨by go_simp, by go_simp, trivial⟩
      have b0 := d2.1
      have b1 := d2.2.1
      have hbo : Below w.heap.size w w1 := by
        refine Below.trans ?_ (hb.mono (by simp <;> omega))
        exact ((((Below.refl _ w).alloc (Nat.le_refl _) _).alloc (by simp) _).alloc (by simp <;> omega) _).alloc (by simp <;> omega) _
      have a0 : ArcsAt w1 (.slice (some ⟨w.heap.size + 1 + 1 + 1, 0, none⟩) 1 1) [(p, k)] := CellsAre.row d3 (by omega) rfl (by omega) (by omega)
      have Hn : Hid (NetAt w1 (.slice (some ⟨w.heap.size, 0, none⟩) 2 2) (.slice (some ⟨w.heap.size + 1, 0, none⟩) 1 1) (net2 [(p, k)] [] [])) := Lib.hid (netAt_mk (CellsAre.row d0 (by omega) rfl (by omega) (by omega)) [(⟨sT, 0, 0, [(p, k)], [], []⟩, .slice (some ⟨w.heap.size + 1 + 1 + 1, 0, none⟩) 1 1, .slice none 0 0, .slice none 0 0)] rfl (CellsAre.row d1 (by omega) rfl (by omega) (by omega)) (fun x hx => by simp at hx; subst hx; exact ⟨a0, arcsAt_nil _, arcsAt_nil _⟩))
      have Hb := Lib.hid hbo
      clear hb hbo d0 d1 d2 d3 a0
      go_wp2_with fail
      refine (check_at rfl rfl Hn.out (net2_names _ _ _) HE.out).mono ?_
      rintro e w2 ⟨rfl, hb2⟩
      have Hb2 := Lib.hid hb2
      clear hb2
      go_wp2
      go_ret
      exact ⟨rfl, Hb.out.trans (Hb2.out.mono Hb.out.size)⟩
    · have HE : Hid (checkN (net2 [(p, k)] [] []) = 2) := Lib.hid (by rw [net2_in, want1, if_neg (by simp [numB]; omega), if_pos (by simp [inP]; omega)])
      go_enter Try.func9, Try.ntmps9
      go_wp2_with fail
      refine (awake_any _).mono ?_
      rintro e w1 ⟨rfl, hb⟩
      have hz : w.heap.size + 4 ≤ w1.heap.size := by have := hb.size; simp at this; omega
      have d0 : CellsAre w1 w.heap.size 0 [.string sP, .int .i64 0, .string sQ, .int .i64 0] := CellsAre.below hb (by simp <;> omega) ⟨by go_simp, by go_simp, by go_simp, by go_simp, trivial⟩
      have d1 : CellsAre w1 (w.heap.size + 1) 0 [.string sT, .int .i64 0, .int .i64 0, .slice (some ⟨w.heap.size + 1 + 1 + 1, 0, none⟩) 1 1, .slice none 0 0, .slice none 0 0] := CellsAre.below hb (by simp <;> omega) ⟨by go_simp, by go_simp, by go_simp, by go_simp, by go_simp, by go_simp, trivial⟩
      have d3 : CellsAre w1 (w.heap.size + 1 + 1 + 1) 0 [.int .i64 p, .int .i64 k] := CellsAre.below hb (by simp <;> omega) ⟨by go_simp, by go_simp, trivial⟩
      have d2 : CellsAre w1 (w.heap.size + 1 + 1) 0 [.slice (some ⟨w.heap.size, 0, none⟩) 2 2, .slice (some ⟨w.heap.size + 1, 0, none⟩) 1 1] := CellsAre.below hb (by simp <;> omega) ⟨by go_simp, by go_simp, trivial⟩
      have b0 := d2.1
      have b1 := d2.2.1
      have hbo : Below w.heap.size w w1 := by
        refine Below.trans ?_ (hb.mono (by simp <;> omega))
        exact ((((Below.refl _ w).alloc (Nat.le_refl _) _).alloc (by simp) _).alloc (by simp <;> omega) _).alloc (by simp <;> omega) _
      have a0 : ArcsAt w1 (.slice (some ⟨w.heap.size + 1 + 1 + 1, 0, none⟩) 1 1) [(p, k)] := CellsAre.row d3 (by omega) rfl (by omega) (by omega)
      have Hn : Hid (NetAt w1 (.slice (some ⟨w.heap.size, 0, none⟩) 2 2) (.slice (some ⟨w.heap.size + 1, 0, none⟩) 1 1) (net2 [(p, k)] [] [])) := Lib.hid (netAt_mk (CellsAre.row d0 (by omega) rfl (by omega) (by omega)) [(⟨sT, 0, 0, [(p, k)], [], []⟩, .slice (some ⟨w.heap.size + 1 + 1 + 1, 0, none⟩) 1 1, .slice none 0 0, .slice none 0 0)] rfl (CellsAre.row d1 (by omega) rfl (by omega) (by omega)) (fun x hx => by simp at hx; subst hx; exact ⟨a0, arcsAt_nil _, arcsAt_nil _⟩))
      have Hb := Lib.hid hbo
      clear hb hbo d0 d1 d2 d3 a0
      go_wp2_with fail
      refine (check_at rfl rfl Hn.out (net2_names _ _ _) HE.out).mono ?_
      rintro e w2 ⟨rfl, hb2⟩
      have Hb2 := Lib.hid hb2
      clear hb2
      go_wp2
      go_ret
      exact ⟨rfl, Hb.out.trans (Hb2.out.mono Hb.out.size)⟩
  · rcases hv with ⟨k1, k2⟩ | ⟨k1, k2, k3, k4⟩ | ⟨k1, k2, k3, k4⟩
    · have HE : Hid (checkN (net2 [(p, k)] [] []) = 3) := Lib.hid (by rw [net2_in, want1, if_pos (by simp [numB]; omega)])
      go_enter Try.func9, Try.ntmps9
      go_wp2_with fail
      refine (awake_any _).mono ?_
      rintro e w1 ⟨rfl, hb⟩
      have hz : w.heap.size + 4 ≤ w1.heap.size := by have := hb.size; simp at this; omega
      have d0 : CellsAre w1 w.heap.size 0 [.string sP, .int .i64 0, .string sQ, .int .i64 0] := CellsAre.below hb (by simp <;> omega) ⟨by go_simp, by go_simp, by go_simp, by go_simp, trivial⟩
      have d1 : CellsAre w1 (w.heap.size + 1) 0 [.string sT, .int .i64 0, .int .i64 0, .slice (some ⟨w.heap.size + 1 + 1 + 1, 0, none⟩) 1 1, .slice none 0 0, .slice none 0 0] := CellsAre.below hb (by simp <;> omega) ⟨by go_simp, by go_simp, by go_simp, by go_simp, by go_simp, by go_simp, trivial⟩
      have d3 : CellsAre w1 (w.heap.size + 1 + 1 + 1) 0 [.int .i64 p, .int .i64 k] := CellsAre.below hb (by simp <;> omega) ⟨by go_simp, by go_simp, trivial⟩
      have d2 : CellsAre w1 (w.heap.size + 1 + 1) 0 [.slice (some ⟨w.heap.size, 0, none⟩) 2 2, .slice (some ⟨w.heap.size + 1, 0, none⟩) 1 1] := CellsAre.below hb (by simp <;> omega) ⟨by go_simp, by go_simp, trivial⟩
      have b0 := d2.1
      have b1 := d2.2.1
      have hbo : Below w.heap.size w w1 := by
        refine Below.trans ?_ (hb.mono (by simp <;> omega))
        exact ((((Below.refl _ w).alloc (Nat.le_refl _) _).alloc (by simp) _).alloc (by simp <;> omega) _).alloc (by simp <;> omega) _
      have a0 : ArcsAt w1 (.slice (some ⟨w.heap.size + 1 + 1 + 1, 0, none⟩) 1 1) [(p, k)] := CellsAre.row d3 (by omega) rfl (by omega) (by omega)
      have Hn : Hid (NetAt w1 (.slice (some ⟨w.heap.size, 0, none⟩) 2 2) (.slice (some ⟨w.heap.size + 1, 0, none⟩) 1 1) (net2 [(p, k)] [] [])) := Lib.hid (netAt_mk (CellsAre.row d0 (by omega) rfl (by omega) (by omega)) [(⟨sT, 0, 0, [(p, k)], [], []⟩, .slice (some ⟨w.heap.size + 1 + 1 + 1, 0, none⟩) 1 1, .slice none 0 0, .slice none 0 0)] rfl (CellsAre.row d1 (by omega) rfl (by omega) (by omega)) (fun x hx => by simp at hx; subst hx; exact ⟨a0, arcsAt_nil _, arcsAt_nil _⟩))
      have Hb := Lib.hid hbo
      clear hb hbo d0 d1 d2 d3 a0
      go_wp2_with fail
      refine (check_at rfl rfl Hn.out (net2_names _ _ _) HE.out).mono ?_
      rintro e w2 ⟨rfl, hb2⟩
      have Hb2 := Lib.hid hb2
      clear hb2
      go_wp2
      go_ret
      exact ⟨rfl, Hb.out.trans (Hb2.out.mono Hb.out.size)⟩
    · have HE : Hid (checkN (net2 [(p, k)] [] []) = 3) := Lib.hid (by rw [net2_in, want1, if_pos (by simp [numB]; omega)])
      go_enter Try.func9, Try.ntmps9
      go_wp2_with fail
      refine (awake_any _).mono ?_
      rintro e w1 ⟨rfl, hb⟩
      have hz : w.heap.size + 4 ≤ w1.heap.size := by have := hb.size; simp at this; omega
      have d0 : CellsAre w1 w.heap.size 0 [.string sP, .int .i64 0, .string sQ, .int .i64 0] := CellsAre.below hb (by simp <;> omega) ⟨by go_simp, by go_simp, by go_simp, by go_simp, trivial⟩
      have d1 : CellsAre w1 (w.heap.size + 1) 0 [.string sT, .int .i64 0, .int .i64 0, .slice (some ⟨w.heap.size + 1 + 1 + 1, 0, none⟩) 1 1, .slice none 0 0, .slice none 0 0] := CellsAre.below hb (by simp <;> omega) ⟨by go_simp, by go_simp, by go_simp, by go_simp, by go_simp, by go_simp, trivial⟩
      have d3 : CellsAre w1 (w.heap.size + 1 + 1 + 1) 0 [.int .i64 p, .int .i64 k] := CellsAre.below hb (by simp <;> omega) ⟨by go_simp, by go_simp, trivial⟩
      have d2 : CellsAre w1 (w.heap.size + 1 + 1) 0 [.slice (some ⟨w.heap.size, 0, none⟩) 2 2, .slice (some ⟨w.heap.size + 1, 0, none⟩) 1 1] := CellsAre.below hb (by simp <;> omega) ⟨by go_simp, by go_simp, trivial⟩
      have b0 := d2.1
      have b1 := d2.2.1
      have hbo : Below w.heap.size w w1 := by
        refine Below.trans ?_ (hb.mono (by simp <;> omega))
        exact ((((Below.refl _ w).alloc (Nat.le_refl _) _).alloc (by simp) _).alloc (by simp <;> omega) _).alloc (by simp <;> omega) _
      have a0 : ArcsAt w1 (.slice (some ⟨w.heap.size + 1 + 1 + 1, 0, none⟩) 1 1) [(p, k)] := CellsAre.row d3 (by omega) rfl (by omega) (by omega)
      have Hn : Hid (NetAt w1 (.slice (some ⟨w.heap.size, 0, none⟩) 2 2) (.slice (some ⟨w.heap.size + 1, 0, none⟩) 1 1) (net2 [(p, k)] [] [])) := Lib.hid (netAt_mk (CellsAre.row d0 (by omega) rfl (by omega) (by omega)) [(⟨sT, 0, 0, [(p, k)], [], []⟩, .slice (some ⟨w.heap.size + 1 + 1 + 1, 0, none⟩) 1 1, .slice none 0 0, .slice none 0 0)] rfl (CellsAre.row d1 (by omega) rfl (by omega) (by omega)) (fun x hx => by simp at hx; subst hx; exact ⟨a0, arcsAt_nil _, arcsAt_nil _⟩))
      have Hb := Lib.hid hbo
      clear hb hbo d0 d1 d2 d3 a0
      go_wp2_with fail
      refine (check_at rfl rfl Hn.out (net2_names _ _ _) HE.out).mono ?_
      rintro e w2 ⟨rfl, hb2⟩
      have Hb2 := Lib.hid hb2
      clear hb2
      go_wp2
      go_ret
      exact ⟨rfl, Hb.out.trans (Hb2.out.mono Hb.out.size)⟩
    · have HE : Hid (checkN (net2 [(p, k)] [] []) = 2) := Lib.hid (by rw [net2_in, want1, if_neg (by simp [numB]; omega), if_pos (by simp [inP]; omega)])
      go_enter Try.func9, Try.ntmps9
      go_wp2_with fail
      refine (awake_any _).mono ?_
      rintro e w1 ⟨rfl, hb⟩
      have hz : w.heap.size + 4 ≤ w1.heap.size := by have := hb.size; simp at this; omega
      have d0 : CellsAre w1 w.heap.size 0 [.string sP, .int .i64 0, .string sQ, .int .i64 0] := CellsAre.below hb (by simp <;> omega) ⟨by go_simp, by go_simp, by go_simp, by go_simp, trivial⟩
      have d1 : CellsAre w1 (w.heap.size + 1) 0 [.string sT, .int .i64 0, .int .i64 0, .slice (some ⟨w.heap.size + 1 + 1 + 1, 0, none⟩) 1 1, .slice none 0 0, .slice none 0 0] := CellsAre.below hb (by simp <;> omega) ⟨by go_simp, by go_simp, by go_simp, by go_simp, by go_simp, by go_simp, trivial⟩
      have d3 : CellsAre w1 (w.heap.size + 1 + 1 + 1) 0 [.int .i64 p, .int .i64 k] := CellsAre.below hb (by simp <;> omega) ⟨by go_simp, by go_simp, trivial⟩
      have d2 : CellsAre w1 (w.heap.size + 1 + 1) 0 [.slice (some ⟨w.heap.size, 0, none⟩) 2 2, .slice (some ⟨w.heap.size + 1, 0, none⟩) 1 1] := CellsAre.below hb (by simp <;> omega) ⟨by go_simp, by go_simp, trivial⟩
      have b0 := d2.1
      have b1 := d2.2.1
      have hbo : Below w.heap.size w w1 := by
        refine Below.trans ?_ (hb.mono (by simp <;> omega))
        exact ((((Below.refl _ w).alloc (Nat.le_refl _) _).alloc (by simp) _).alloc (by simp <;> omega) _).alloc (by simp <;> omega) _
      have a0 : ArcsAt w1 (.slice (some ⟨w.heap.size + 1 + 1 + 1, 0, none⟩) 1 1) [(p, k)] := CellsAre.row d3 (by omega) rfl (by omega) (by omega)
      have Hn : Hid (NetAt w1 (.slice (some ⟨w.heap.size, 0, none⟩) 2 2) (.slice (some ⟨w.heap.size + 1, 0, none⟩) 1 1) (net2 [(p, k)] [] [])) := Lib.hid (netAt_mk (CellsAre.row d0 (by omega) rfl (by omega) (by omega)) [(⟨sT, 0, 0, [(p, k)], [], []⟩, .slice (some ⟨w.heap.size + 1 + 1 + 1, 0, none⟩) 1 1, .slice none 0 0, .slice none 0 0)] rfl (CellsAre.row d1 (by omega) rfl (by omega) (by omega)) (fun x hx => by simp at hx; subst hx; exact ⟨a0, arcsAt_nil _, arcsAt_nil _⟩))
      have Hb := Lib.hid hbo
      clear hb hbo d0 d1 d2 d3 a0
      go_wp2_with fail
      refine (check_at rfl rfl Hn.out (net2_names _ _ _) HE.out).mono ?_
      rintro e w2 ⟨rfl, hb2⟩
      have Hb2 := Lib.hid hb2
      clear hb2
      go_wp2
      go_ret
      exact ⟨rfl, Hb.out.trans (Hb2.out.mono Hb.out.size)⟩
  · rcases hv with ⟨k1, k2⟩ | ⟨k1, k2, k3, k4⟩ | ⟨k1, k2, k3, k4⟩
    · have HE : Hid (checkN (net2 [(p, k)] [] []) = 3) := Lib.hid (by rw [net2_in, want1, if_pos (by simp [numB]; omega)])
      go_enter Try.func9, Try.ntmps9
      go_wp2_with fail
      refine (awake_any _).mono ?_
      rintro e w1 ⟨rfl, hb⟩
      have hz : w.heap.size + 4 ≤ w1.heap.size := by have := hb.size; simp at this; omega
      have d0 : CellsAre w1 w.heap.size 0 [.string sP, .int .i64 0, .string sQ, .int .i64 0] := CellsAre.below hb (by simp <;> omega) ⟨by go_simp, by go_simp, by go_simp, by go_simp, trivial⟩
      have d1 : CellsAre w1 (w.heap.size + 1) 0 [.string sT, .int .i64 0, .int .i64 0, .slice (some ⟨w.heap.size + 1 + 1 + 1, 0, none⟩) 1 1, .slice none 0 0, .slice none 0 0] := CellsAre.below hb (by simp <;> omega) ⟨by go_simp, by go_simp, by go_simp, by go_simp, by go_simp, by go_simp, trivial⟩
      have d3 : CellsAre w1 (w.heap.size + 1 + 1 + 1) 0 [.int .i64 p, .int .i64 k] := CellsAre.below hb (by simp <;> omega) ⟨by go_simp, by go_simp, trivial⟩
      have d2 : CellsAre w1 (w.heap.size + 1 + 1) 0 [.slice (some ⟨w.heap.size, 0, none⟩) 2 2, .slice (some ⟨w.heap.size + 1, 0, none⟩) 1 1] := CellsAre.below hb (by simp <;> omega) ⟨by go_simp, by go_simp, trivial⟩
      have b0 := d2.1
      have b1 := d2.2.1
      have hbo : Below w.heap.size w w1 := by
        refine Below.trans ?_ (hb.mono (by simp <;> omega))
        exact ((((Below.refl _ w).alloc (Nat.le_refl _) _).alloc (by simp) _).alloc (by simp <;> omega) _).alloc (by simp <;> omega) _
      have a0 : ArcsAt w1 (.slice (some ⟨w.heap.size + 1 + 1 + 1, 0, none⟩) 1 1) [(p, k)] := CellsAre.row d3 (by omega) rfl (by omega) (by omega)
      have Hn : Hid (NetAt w1 (.slice (some ⟨w.heap.size, 0, none⟩) 2 2) (.slice (some ⟨w.heap.size + 1, 0, none⟩) 1 1) (net2 [(p, k)] [] [])) := Lib.hid (netAt_mk (CellsAre.row d0 (by omega) rfl (by omega) (by omega)) [(⟨sT, 0, 0, [(p, k)], [], []⟩, .slice (some ⟨w.heap.size + 1 + 1 + 1, 0, none⟩) 1 1, .slice none 0 0, .slice none 0 0)] rfl (CellsAre.row d1 (by omega) rfl (by omega) (by omega)) (fun x hx => by simp at hx; subst hx; exact ⟨a0, arcsAt_nil _, arcsAt_nil _⟩))
      have Hb := Lib.hid hbo
      clear hb hbo d0 d1 d2 d3 a0
      go_wp2_with fail
      refine (check_at rfl rfl Hn.out (net2_names _ _ _) HE.out).mono ?_
      rintro e w2 ⟨rfl, hb2⟩
      have Hb2 := Lib.hid hb2
      clear hb2
      go_wp2
      go_ret
      exact ⟨rfl, Hb.out.trans (Hb2.out.mono Hb.out.size)⟩
    · have HE : Hid (checkN (net2 [(p, k)] [] []) = 3) := Lib.hid (by rw [net2_in, want1, if_pos (by simp [numB]; omega)])
      go_enter Try.func9, Try.ntmps9
      go_wp2_with fail
      refine (awake_any _).mono ?_
      rintro e w1 ⟨rfl, hb⟩
      have hz : w.heap.size + 4 ≤ w1.heap.size := by have := hb.size; simp at this; omega
      have d0 : CellsAre w1 w.heap.size 0 [.string sP, .int .i64 0, .string sQ, .int .i64 0] := CellsAre.below hb (by simp <;> omega) ⟨by go_simp, by go_simp, by go_simp, by go_simp, trivial⟩
      have d1 : CellsAre w1 (w.heap.size + 1) 0 [.string sT, .int .i64 0, .int .i64 0, .slice (some ⟨w.heap.size + 1 + 1 + 1, 0, none⟩) 1 1, .slice none 0 0, .slice none 0 0] := CellsAre.below hb (by simp <;> omega) ⟨by go_simp, by go_simp, by go_simp, by go_simp, by go_simp, by go_simp, trivial⟩
      have d3 : CellsAre w1 (w.heap.size + 1 + 1 + 1) 0 [.int .i64 p, .int .i64 k] := CellsAre.below hb (by simp <;> omega) ⟨by go_simp, by go_simp, trivial⟩
      have d2 : CellsAre w1 (w.heap.size + 1 + 1) 0 [.slice (some ⟨w.heap.size, 0, none⟩) 2 2, .slice (some ⟨w.heap.size + 1, 0, none⟩) 1 1] := CellsAre.below hb (by simp <;> omega) ⟨by go_simp, by go_simp, trivial⟩
      have b0 := d2.1
      have b1 := d2.2.1
      have hbo : Below w.heap.size w w1 := by
        refine Below.trans ?_ (hb.mono (by simp <;> omega))
        exact ((((Below.refl _ w).alloc (Nat.le_refl _) _).alloc (by simp) _).alloc (by simp <;> omega) _).alloc (by simp <;> omega) _
      have a0 : ArcsAt w1 (.slice (some ⟨w.heap.size + 1 + 1 + 1, 0, none⟩) 1 1) [(p, k)] := CellsAre.row d3 (by omega) rfl (by omega) (by omega)
      have Hn : Hid (NetAt w1 (.slice (some ⟨w.heap.size, 0, none⟩) 2 2) (.slice (some ⟨w.heap.size + 1, 0, none⟩) 1 1) (net2 [(p, k)] [] [])) := Lib.hid (netAt_mk (CellsAre.row d0 (by omega) rfl (by omega) (by omega)) [(⟨sT, 0, 0, [(p, k)], [], []⟩, .slice (some ⟨w.heap.size + 1 + 1 + 1, 0, none⟩) 1 1, .slice none 0 0, .slice none 0 0)] rfl (CellsAre.row d1 (by omega) rfl (by omega) (by omega)) (fun x hx => by simp at hx; subst hx; exact ⟨a0, arcsAt_nil _, arcsAt_nil _⟩))
      have Hb := Lib.hid hbo
      clear hb hbo d0 d1 d2 d3 a0
      go_wp2_with fail
      refine (check_at rfl rfl Hn.out (net2_names _ _ _) HE.out).mono ?_
      rintro e w2 ⟨rfl, hb2⟩
      have Hb2 := Lib.hid hb2
      clear hb2
      go_wp2
      go_ret
      exact ⟨rfl, Hb.out.trans (Hb2.out.mono Hb.out.size)⟩
    · have HE : Hid (checkN (net2 [(p, k)] [] []) = 0) := Lib.hid (by rw [net2_in, want1, if_neg (by simp [numB]; omega), if_neg (by simp [inP]; omega)])
      go_enter Try.func9, Try.ntmps9
      go_wp2_with fail
      refine (awake_any _).mono ?_
      rintro e w1 ⟨rfl, hb⟩
      have hz : w.heap.size + 4 ≤ w1.heap.size := by have := hb.size; simp at this; omega
      have d0 : CellsAre w1 w.heap.size 0 [.string sP, .int .i64 0, .string sQ, .int .i64 0] := CellsAre.below hb (by simp <;> omega) ⟨by go_simp, by go_simp, by go_simp, by go_simp, trivial⟩
      have d1 : CellsAre w1 (w.heap.size + 1) 0 [.string sT, .int .i64 0, .int .i64 0, .slice (some ⟨w.heap.size + 1 + 1 + 1, 0, none⟩) 1 1, .slice none 0 0, .slice none 0 0] := CellsAre.below hb (by simp <;> omega) ⟨by go_simp, by go_simp, by go_simp, by go_simp, by go_simp, by go_simp, trivial⟩
      have d3 : CellsAre w1 (w.heap.size + 1 + 1 + 1) 0 [.int .i64 p, .int .i64 k] := CellsAre.below hb (by simp <;> omega) ⟨by go_simp, by go_simp, trivial⟩
      have d2 : CellsAre w1 (w.heap.size + 1 + 1) 0 [.slice (some ⟨w.heap.size, 0, none⟩) 2 2, .slice (some ⟨w.heap.size + 1, 0, none⟩) 1 1] := CellsAre.below hb (by simp <;> omega) ⟨by go_simp, by go_simp, trivial⟩
      have b0 := d2.1
      have b1 := d2.2.1
      have hbo : Below w.heap.size w w1 := by
        refine Below.trans ?_ (hb.mono (by simp <;> omega))
        exact ((((Below.refl _ w).alloc (Nat.le_refl _) _).alloc (by simp) _).alloc (by simp <;> omega) _).alloc (by simp <;> omega) _
      have a0 : ArcsAt w1 (.slice (some ⟨w.heap.size + 1 + 1 + 1, 0, none⟩) 1 1) [(p, k)] := CellsAre.row d3 (by omega) rfl (by omega) (by omega)
      have Hn : Hid (NetAt w1 (.slice (some ⟨w.heap.size, 0, none⟩) 2 2) (.slice (some ⟨w.heap.size + 1, 0, none⟩) 1 1) (net2 [(p, k)] [] [])) := Lib.hid (netAt_mk (CellsAre.row d0 (by omega) rfl (by omega) (by omega)) [(⟨sT, 0, 0, [(p, k)], [], []⟩, .slice (some ⟨w.heap.size + 1 + 1 + 1, 0, none⟩) 1 1, .slice none 0 0, .slice none 0 0)] rfl (CellsAre.row d1 (by omega) rfl (by omega) (by omega)) (fun x hx => by simp at hx; subst hx; exact ⟨a0, arcsAt_nil _, arcsAt_nil _⟩))
      have Hb := Lib.hid hbo
      clear hb hbo d0 d1 d2 d3 a0
      go_wp2_with fail
      refine (check_at rfl rfl Hn.out (net2_names _ _ _) HE.out).mono ?_
      rintro e w2 ⟨rfl, hb2⟩
      have Hb2 := Lib.hid hb2
      clear hb2
      go_wp2
      go_ret
      exact ⟨rfl, Hb.out.trans (Hb2.out.mono Hb.out.size)⟩

set_option maxRecDepth 100000 in
set_option maxHeartbeats 4000000 in
theorem numbers_not (l p k : Int) (w : World) (h0 : 0 ≤ l) (h1 : l ≤ 255) (hl : l % 3 = 1) :
    Calls Try.prog 9 #[.int .u8 l, .int .i64 k, .int .i64 p] w fun e w' => e = .returned (.bool true) ∧ Below w.heap.size w w' := by
  have hlb : (l % 3 == 0) = false := by simp [hl]
  have hlc : (l % 3 == 1) = true := by simp [hl]
  clear hl
  have hw : (p < 0 ∧ decide (p < 0) = true) ∨ (¬ p < 0 ∧ decide (p < 0) = false ∧ 1 < p ∧ decide (1 < p) = true) ∨ (¬ p < 0 ∧ decide (p < 0) = false ∧ ¬ 1 < p ∧ decide (1 < p) = false) := by simp; omega
  have hv : (k < 1 ∧ decide (k < 1) = true) ∨ (¬ k < 1 ∧ decide (k < 1) = false ∧ 1000000 < k ∧ decide (1000000 < k) = true) ∨ (¬ k < 1 ∧ decide (k < 1) = false ∧ ¬ 1000000 < k ∧ decide (1000000 < k) = false) := by simp; omega
  rcases hw with ⟨p1, p2⟩ | ⟨p1, p2, p3, p4⟩ | ⟨p1, p2, p3, p4⟩
  · rcases hv with ⟨k1, k2⟩ | ⟨k1, k2, k3, k4⟩ | ⟨k1, k2, k3, k4⟩
    · have HE : Hid (checkN (net2 [] [(p, k)] []) = 3) := Lib.hid (by rw [net2_not, want1, if_pos (by simp [numB]; omega)])
      go_enter Try.func9, Try.ntmps9
      go_wp2_with fail
      refine (awake_any _).mono ?_
      rintro e w1 ⟨rfl, hb⟩
      have hz : w.heap.size + 4 ≤ w1.heap.size := by have := hb.size; simp at this; omega
      have d0 : CellsAre w1 w.heap.size 0 [.string sP, .int .i64 0, .string sQ, .int .i64 0] := CellsAre.below hb (by simp <;> omega) ⟨by go_simp, by go_simp, by go_simp, by go_simp, trivial⟩
      have d1 : CellsAre w1 (w.heap.size + 1) 0 [.string sT, .int .i64 0, .int .i64 0, .slice none 0 0, .slice (some ⟨w.heap.size + 1 + 1 + 1, 0, none⟩) 1 1, .slice none 0 0] := CellsAre.below hb (by simp <;> omega) ⟨by go_simp, by go_simp, by go_simp, by go_simp, by go_simp, by go_simp, trivial⟩
      have d3 : CellsAre w1 (w.heap.size + 1 + 1 + 1) 0 [.int .i64 p, .int .i64 k] := CellsAre.below hb (by simp <;> omega) ⟨by go_simp, by go_simp, trivial⟩
      have d2 : CellsAre w1 (w.heap.size + 1 + 1) 0 [.slice (some ⟨w.heap.size, 0, none⟩) 2 2, .slice (some ⟨w.heap.size + 1, 0, none⟩) 1 1] := CellsAre.below hb (by simp <;> omega) ⟨by go_simp, by go_simp, trivial⟩
      have b0 := d2.1
      have b1 := d2.2.1
      have hbo : Below w.heap.size w w1 := by
        refine Below.trans ?_ (hb.mono (by simp <;> omega))
        exact ((((Below.refl _ w).alloc (Nat.le_refl _) _).alloc (by simp) _).alloc (by simp <;> omega) _).alloc (by simp <;> omega) _
      have a0 : ArcsAt w1 (.slice (some ⟨w.heap.size + 1 + 1 + 1, 0, none⟩) 1 1) [(p, k)] := CellsAre.row d3 (by omega) rfl (by omega) (by omega)
      have Hn : Hid (NetAt w1 (.slice (some ⟨w.heap.size, 0, none⟩) 2 2) (.slice (some ⟨w.heap.size + 1, 0, none⟩) 1 1) (net2 [] [(p, k)] [])) := Lib.hid (netAt_mk (CellsAre.row d0 (by omega) rfl (by omega) (by omega)) [(⟨sT, 0, 0, [], [(p, k)], []⟩, .slice none 0 0, .slice (some ⟨w.heap.size + 1 + 1 + 1, 0, none⟩) 1 1, .slice none 0 0)] rfl (CellsAre.row d1 (by omega) rfl (by omega) (by omega)) (fun x hx => by simp at hx; subst hx; exact ⟨arcsAt_nil _, a0, arcsAt_nil _⟩))
      have Hb := Lib.hid hbo
      clear hb hbo d0 d1 d2 d3 a0
      go_wp2_with fail
      refine (check_at rfl rfl Hn.out (net2_names _ _ _) HE.out).mono ?_
      rintro e w2 ⟨rfl, hb2⟩
      have Hb2 := Lib.hid hb2
      clear hb2
      go_wp2
      go_ret
      exact ⟨rfl, Hb.out.trans (Hb2.out.mono Hb.out.size)⟩
    · have HE : Hid (checkN (net2 [] [(p, k)] []) = 3) := Lib.hid (by rw [net2_not, want1, if_pos (by simp [numB]; omega)])
      go_enter Try.func9, Try.ntmps9
      go_wp2_with fail
      refine (awake_any _).mono ?_
      rintro e w1 ⟨rfl, hb⟩
      have hz : w.heap.size + 4 ≤ w1.heap.size := by have := hb.size; simp at this; omega
      have d0 : CellsAre w1 w.heap.size 0 [.string sP, .int .i64 0, .string sQ, .int .i64 0] := CellsAre.below hb (by simp <;> omega) ⟨by go_simp, by go_simp, by go_simp, by go_simp, trivial⟩
      have d1 : CellsAre w1 (w.heap.size + 1) 0 [.string sT, .int .i64 0, .int .i64 0, .slice none 0 0, .slice (some ⟨w.heap.size + 1 + 1 + 1, 0, none⟩) 1 1, .slice none 0 0] := CellsAre.below hb (by simp <;> omega) ⟨by go_simp, by go_simp, by go_simp, by go_simp, by go_simp, by go_simp, trivial⟩
      have d3 : CellsAre w1 (w.heap.size + 1 + 1 + 1) 0 [.int .i64 p, .int .i64 k] := CellsAre.below hb (by simp <;> omega) ⟨by go_simp, by go_simp, trivial⟩
      have d2 : CellsAre w1 (w.heap.size + 1 + 1) 0 [.slice (some ⟨w.heap.size, 0, none⟩) 2 2, .slice (some ⟨w.heap.size + 1, 0, none⟩) 1 1] := CellsAre.below hb (by simp <;> omega) ⟨by go_simp, by go_simp, trivial⟩
      have b0 := d2.1
      have b1 := d2.2.1
      have hbo : Below w.heap.size w w1 := by
        refine Below.trans ?_ (hb.mono (by simp <;> omega))
        exact ((((Below.refl _ w).alloc (Nat.le_refl _) _).alloc (by simp) _).alloc (by simp <;> omega) _).alloc (by simp <;> omega) _
      have a0 : ArcsAt w1 (.slice (some ⟨w.heap.size + 1 + 1 + 1, 0, none⟩) 1 1) [(p, k)] := CellsAre.row d3 (by omega) rfl (by omega) (by omega)
      have Hn : Hid (NetAt w1 (.slice (some ⟨w.heap.size, 0, none⟩) 2 2) (.slice (some ⟨w.heap.size + 1, 0, none⟩) 1 1) (net2 [] [(p, k)] [])) := Lib.hid (netAt_mk (CellsAre.row d0 (by omega) rfl (by omega) (by omega)) [(⟨sT, 0, 0, [], [(p, k)], []⟩, .slice none 0 0, .slice (some ⟨w.heap.size + 1 + 1 + 1, 0, none⟩) 1 1, .slice none 0 0)] rfl (CellsAre.row d1 (by omega) rfl (by omega) (by omega)) (fun x hx => by simp at hx; subst hx; exact ⟨arcsAt_nil _, a0, arcsAt_nil _⟩))
      have Hb := Lib.hid hbo
      clear hb hbo d0 d1 d2 d3 a0
      go_wp2_with fail
      refine (check_at rfl rfl Hn.out (net2_names _ _ _) HE.out).mono ?_
      rintro e w2 ⟨rfl, hb2⟩
      have Hb2 := Lib.hid hb2
      clear hb2
      go_wp2
      go_ret
      exact ⟨rfl, Hb.out.trans (Hb2.out.mono Hb.out.size)⟩
    · have HE : Hid (checkN (net2 [] [(p, k)] []) = 2) := Lib.hid (by rw [net2_not, want1, if_neg (by simp [numB]; omega), if_pos (by simp [inP]; omega)])
      go_enter Try.func9, Try.ntmps9
      go_wp2_with fail
      refine (awake_any _).mono ?_
      rintro e w1 ⟨rfl, hb⟩
      have hz : w.heap.size + 4 ≤ w1.heap.size := by have := hb.size; simp at this; omega
      have d0 : CellsAre w1 w.heap.size 0 [.string sP, .int .i64 0, .string sQ, .int .i64 0] := CellsAre.below hb (by simp <;> omega) ⟨by go_simp, by go_simp, by go_simp, by go_simp, trivial⟩
      have d1 : CellsAre w1 (w.heap.size + 1) 0 [.string sT, .int .i64 0, .int .i64 0, .slice none 0 0, .slice (some ⟨w.heap.size + 1 + 1 + 1, 0, none⟩) 1 1, .slice none 0 0] := CellsAre.below hb (by simp <;> omega) ⟨by go_simp, by go_simp, by go_simp, by go_simp, by go_simp, by go_simp, trivial⟩
      have d3 : CellsAre w1 (w.heap.size + 1 + 1 + 1) 0 [.int .i64 p, .int .i64 k] := CellsAre.below hb (by simp <;> omega) ⟨by go_simp, by go_simp, trivial⟩
      have d2 : CellsAre w1 (w.heap.size + 1 + 1) 0 [.slice (some ⟨w.heap.size, 0, none⟩) 2 2, .slice (some ⟨w.heap.size + 1, 0, none⟩) 1 1] := CellsAre.below hb (by simp <;> omega) ⟨by go_simp, by go_simp, trivial⟩
      have b0 := d2.1
      have b1 := d2.2.1
      have hbo : Below w.heap.size w w1 := by
        refine Below.trans ?_ (hb.mono (by simp <;> omega))
        exact ((((Below.refl _ w).alloc (Nat.le_refl _) _).alloc (by simp) _).alloc (by simp <;> omega) _).alloc (by simp <;> omega) _
      have a0 : ArcsAt w1 (.slice (some ⟨w.heap.size + 1 + 1 + 1, 0, none⟩) 1 1) [(p, k)] := CellsAre.row d3 (by omega) rfl (by omega) (by omega)
      have Hn : Hid (NetAt w1 (.slice (some ⟨w.heap.size, 0, none⟩) 2 2) (.slice (some ⟨w.heap.size + 1, 0, none⟩) 1 1) (net2 [] [(p, k)] [])) := Lib.hid (netAt_mk (CellsAre.row d0 (by omega) rfl (by omega) (by omega)) [(⟨sT, 0, 0, [], [(p, k)], []⟩, .slice none 0 0, .slice (some ⟨w.heap.size + 1 + 1 + 1, 0, none⟩) 1 1, .slice none 0 0)] rfl (CellsAre.row d1 (by omega) rfl (by omega) (by omega)) (fun x hx => by simp at hx; subst hx; exact ⟨arcsAt_nil _, a0, arcsAt_nil _⟩))
      have Hb := Lib.hid hbo
      clear hb hbo d0 d1 d2 d3 a0
      go_wp2_with fail
      refine (check_at rfl rfl Hn.out (net2_names _ _ _) HE.out).mono ?_
      rintro e w2 ⟨rfl, hb2⟩
      have Hb2 := Lib.hid hb2
      clear hb2
      go_wp2
      go_ret
      exact ⟨rfl, Hb.out.trans (Hb2.out.mono Hb.out.size)⟩
  · rcases hv with ⟨k1, k2⟩ | ⟨k1, k2, k3, k4⟩ | ⟨k1, k2, k3, k4⟩
    · have HE : Hid (checkN (net2 [] [(p, k)] []) = 3) := Lib.hid (by rw [net2_not, want1, if_pos (by simp [numB]; omega)])
      go_enter Try.func9, Try.ntmps9
      go_wp2_with fail
      refine (awake_any _).mono ?_
      rintro e w1 ⟨rfl, hb⟩
      have hz : w.heap.size + 4 ≤ w1.heap.size := by have := hb.size; simp at this; omega
      have d0 : CellsAre w1 w.heap.size 0 [.string sP, .int .i64 0, .string sQ, .int .i64 0] := CellsAre.below hb (by simp <;> omega) ⟨by go_simp, by go_simp, by go_simp, by go_simp, trivial⟩
      have d1 : CellsAre w1 (w.heap.size + 1) 0 [.string sT, .int .i64 0, .int .i64 0, .slice none 0 0, .slice (some ⟨w.heap.size + 1 + 1 + 1, 0, none⟩) 1 1, .slice none 0 0] := CellsAre.below hb (by simp <;> omega) ⟨by go_simp, by go_simp, by go_simp, by go_simp, by go_simp, by go_simp, trivial⟩
      have d3 : CellsAre w1 (w.heap.size + 1 + 1 + 1) 0 [.int .i64 p, .int .i64 k] := CellsAre.below hb (by simp <;> omega) ⟨by go_simp, by go_simp, trivial⟩
      have d2 : CellsAre w1 (w.heap.size + 1 + 1) 0 [.slice (some ⟨w.heap.size, 0, none⟩) 2 2, .slice (some ⟨w.heap.size + 1, 0, none⟩) 1 1] := CellsAre.below hb (by simp <;> omega) ⟨by go_simp, by go_simp, trivial⟩
      have b0 := d2.1
      have b1 := d2.2.1
      have hbo : Below w.heap.size w w1 := by
        refine Below.trans ?_ (hb.mono (by simp <;> omega))
        exact ((((Below.refl _ w).alloc (Nat.le_refl _) _).alloc (by simp) _).alloc (by simp <;> omega) _).alloc (by simp <;> omega) _
      have a0 : ArcsAt w1 (.slice (some ⟨w.heap.size + 1 + 1 + 1, 0, none⟩) 1 1) [(p, k)] := CellsAre.row d3 (by omega) rfl (by omega) (by omega)
      have Hn : Hid (NetAt w1 (.slice (some ⟨w.heap.size, 0, none⟩) 2 2) (.slice (some ⟨w.heap.size + 1, 0, none⟩) 1 1) (net2 [] [(p, k)] [])) := Lib.hid (netAt_mk (CellsAre.row d0 (by omega) rfl (by omega) (by omega)) [(⟨sT, 0, 0, [], [(p, k)], []⟩, .slice none 0 0, .slice (some ⟨w.heap.size + 1 + 1 + 1, 0, none⟩) 1 1, .slice none 0 0)] rfl (CellsAre.row d1 (by omega) rfl (by omega) (by omega)) (fun x hx => by simp at hx; subst hx; exact ⟨arcsAt_nil _, a0, arcsAt_nil _⟩))
      have Hb := Lib.hid hbo
      clear hb hbo d0 d1 d2 d3 a0
      go_wp2_with fail
      refine (check_at rfl rfl Hn.out (net2_names _ _ _) HE.out).mono ?_
      rintro e w2 ⟨rfl, hb2⟩
      have Hb2 := Lib.hid hb2
      clear hb2
      go_wp2
      go_ret
      exact ⟨rfl, Hb.out.trans (Hb2.out.mono Hb.out.size)⟩
    · have HE : Hid (checkN (net2 [] [(p, k)] []) = 3) := Lib.hid (by rw [net2_not, want1, if_pos (by simp [numB]; omega)])
      go_enter Try.func9, Try.ntmps9
      go_wp2_with fail
      refine (awake_any _).mono ?_
      rintro e w1 ⟨rfl, hb⟩
      have hz : w.heap.size + 4 ≤ w1.heap.size := by have := hb.size; simp at this; omega
      have d0 : CellsAre w1 w.heap.size 0 [.string sP, .int .i64 0, .string sQ, .int .i64 0] := CellsAre.below hb (by simp <;> omega) ⟨by go_simp, by go_simp, by go_simp, by go_simp, trivial⟩
      have d1 : CellsAre w1 (w.heap.size + 1) 0 [.string sT, .int .i64 0, .int .i64 0, .slice none 0 0, .slice (some ⟨w.heap.size + 1 + 1 + 1, 0, none⟩) 1 1, .slice none 0 0] := CellsAre.below hb (by simp <;> omega) ⟨by go_simp, by go_simp, by go_simp, by go_simp, by go_simp, by go_simp, trivial⟩
      have d3 : CellsAre w1 (w.heap.size + 1 + 1 + 1) 0 [.int .i64 p, .int .i64 k] := CellsAre.below hb (by simp <;> omega) ⟨by go_simp, by go_simp, trivial⟩
      have d2 : CellsAre w1 (w.heap.size + 1 + 1) 0 [.slice (some ⟨w.heap.size, 0, none⟩) 2 2, .slice (some ⟨w.heap.size + 1, 0, none⟩) 1 1] := CellsAre.below hb (by simp <;> omega) ⟨by go_simp, by go_simp, trivial⟩
      have b0 := d2.1
      have b1 := d2.2.1
      have hbo : Below w.heap.size w w1 := by
        refine Below.trans ?_ (hb.mono (by simp <;> omega))
        exact ((((Below.refl _ w).alloc (Nat.le_refl _) _).alloc (by simp) _).alloc (by simp <;> omega) _).alloc (by simp <;> omega) _
      have a0 : ArcsAt w1 (.slice (some ⟨w.heap.size + 1 + 1 + 1, 0, none⟩) 1 1) [(p, k)] := CellsAre.row d3 (by omega) rfl (by omega) (by omega)
      have Hn : Hid (NetAt w1 (.slice (some ⟨w.heap.size, 0, none⟩) 2 2) (.slice (some ⟨w.heap.size + 1, 0, none⟩) 1 1) (net2 [] [(p, k)] [])) := Lib.hid (netAt_mk (CellsAre.row d0 (by omega) rfl (by omega) (by omega)) [(⟨sT, 0, 0, [], [(p, k)], []⟩, .slice none 0 0, .slice (some ⟨w.heap.size + 1 + 1 + 1, 0, none⟩) 1 1, .slice none 0 0)] rfl (CellsAre.row d1 (by omega) rfl (by omega) (by omega)) (fun x hx => by simp at hx; subst hx; exact ⟨arcsAt_nil _, a0, arcsAt_nil _⟩))
      have Hb := Lib.hid hbo
      clear hb hbo d0 d1 d2 d3 a0
      go_wp2_with fail
      refine (check_at rfl rfl Hn.out (net2_names _ _ _) HE.out).mono ?_
      rintro e w2 ⟨rfl, hb2⟩
      have Hb2 := Lib.hid hb2
      clear hb2
      go_wp2
      go_ret
      exact ⟨rfl, Hb.out.trans (Hb2.out.mono Hb.out.size)⟩
    · have HE : Hid (checkN (net2 [] [(p, k)] []) = 2) := Lib.hid (by rw [net2_not, want1, if_neg (by simp [numB]; omega), if_pos (by simp [inP]; omega)])
      go_enter Try.func9, Try.ntmps9
      go_wp2_with fail
      refine (awake_any _).mono ?_
      rintro e w1 ⟨rfl, hb⟩
      have hz : w.heap.size + 4 ≤ w1.heap.size := by have := hb.size; simp at this; omega
      have d0 : CellsAre w1 w.heap.size 0 [.string sP, .int .i64 0, .string sQ, .int .i64 0] := CellsAre.below hb (by simp <;> omega) ⟨by go_simp, by go_simp, by go_simp, by go_simp, trivial⟩
      have d1 : CellsAre w1 (w.heap.size + 1) 0 [.string sT, .int .i64 0, .int .i64 0, .slice none 0 0, .slice (some ⟨w.heap.size + 1 + 1 + 1, 0, none⟩) 1 1, .slice none 0 0] := CellsAre.below hb (by simp <;> omega) ⟨by go_simp, by go_simp, by go_simp, by go_simp, by go_simp, by go_simp, trivial⟩
      have d3 : CellsAre w1 (w.heap.size + 1 + 1 + 1) 0 [.int .i64 p, .int .i64 k] := CellsAre.below hb (by simp <;> omega) ⟨by go_simp, by go_simp, trivial⟩
      have d2 : CellsAre w1 (w.heap.size + 1 + 1) 0 [.slice (some ⟨w.heap.size, 0, none⟩) 2 2, .slice (some ⟨w.heap.size + 1, 0, none⟩) 1 1] := CellsAre.below hb (by simp <;> omega) ⟨by go_simp, by go_simp, trivial⟩
      have b0 := d2.1
      have b1 := d2.2.1
      have hbo : Below w.heap.size w w1 := by
        refine Below.trans ?_ (hb.mono (by simp <;> omega))
        exact ((((Below.refl _ w).alloc (Nat.le_refl _) _).alloc (by simp) _).alloc (by simp <;> omega) _).alloc (by simp <;> omega) _
      have a0 : ArcsAt w1 (.slice (some ⟨w.heap.size + 1 + 1 + 1, 0, none⟩) 1 1) [(p, k)] := CellsAre.row d3 (by omega) rfl (by omega) (by omega)
      have Hn : Hid (NetAt w1 (.slice (some ⟨w.heap.size, 0, none⟩) 2 2) (.slice (some ⟨w.heap.size + 1, 0, none⟩) 1 1) (net2 [] [(p, k)] [])) := Lib.hid (netAt_mk (CellsAre.row d0 (by omega) rfl (by omega) (by omega)) [(⟨sT, 0, 0, [], [(p, k)], []⟩, .slice none 0 0, .slice (some ⟨w.heap.size + 1 + 1 + 1, 0, none⟩) 1 1, .slice none 0 0)] rfl (CellsAre.row d1 (by omega) rfl (by omega) (by omega)) (fun x hx => by simp at hx; subst hx; exact ⟨arcsAt_nil _, a0, arcsAt_nil _⟩))
      have Hb := Lib.hid hbo
      clear hb hbo d0 d1 d2 d3 a0
      go_wp2_with fail
      refine (check_at rfl rfl Hn.out (net2_names _ _ _) HE.out).mono ?_
      rintro e w2 ⟨rfl, hb2⟩
      have Hb2 := Lib.hid hb2
      clear hb2
      go_wp2
      go_ret
      exact ⟨rfl, Hb.out.trans (Hb2.out.mono Hb.out.size)⟩
  · rcases hv with ⟨k1, k2⟩ | ⟨k1, k2, k3, k4⟩ | ⟨k1, k2, k3, k4⟩
    · have HE : Hid (checkN (net2 [] [(p, k)] []) = 3) := Lib.hid (by rw [net2_not, want1, if_pos (by simp [numB]; omega)])
      go_enter Try.func9, Try.ntmps9
      go_wp2_with fail
      refine (awake_any _).mono ?_
      rintro e w1 ⟨rfl, hb⟩
      have hz : w.heap.size + 4 ≤ w1.heap.size := by have := hb.size; simp at this; omega
      have d0 : CellsAre w1 w.heap.size 0 [.string sP, .int .i64 0, .string sQ, .int .i64 0] := CellsAre.below hb (by simp <;> omega) ⟨by go_simp, by go_simp, by go_simp, by go_simp, trivial⟩
      have d1 : CellsAre w1 (w.heap.size + 1) 0 [.string sT, .int .i64 0, .int .i64 0, .slice none 0 0, .slice (some ⟨w.heap.size + 1 + 1 + 1, 0, none⟩) 1 1, .slice none 0 0] := CellsAre.below hb (by simp <;> omega) ⟨by go_simp, by go_simp, by go_simp, by go_simp, by go_simp, by go_simp, trivial⟩
      have d3 : CellsAre w1 (w.heap.size + 1 + 1 + 1) 0 [.int .i64 p, .int .i64 k] := CellsAre.below hb (by simp <;> omega) ⟨by go_simp, by go_simp, trivial⟩
      have d2 : CellsAre w1 (w.heap.size + 1 + 1) 0 [.slice (some ⟨w.heap.size, 0, none⟩) 2 2, .slice (some ⟨w.heap.size + 1, 0, none⟩) 1 1] := CellsAre.below hb (by simp <;> omega) ⟨by go_simp, by go_simp, trivial⟩
      have b0 := d2.1
      have b1 := d2.2.1
      have hbo : Below w.heap.size w w1 := by
        refine Below.trans ?_ (hb.mono (by simp <;> omega))
        exact ((((Below.refl _ w).alloc (Nat.le_refl _) _).alloc (by simp) _).alloc (by simp <;> omega) _).alloc (by simp <;> omega) _
      have a0 : ArcsAt w1 (.slice (some ⟨w.heap.size + 1 + 1 + 1, 0, none⟩) 1 1) [(p, k)] := CellsAre.row d3 (by omega) rfl (by omega) (by omega)
      have Hn : Hid (NetAt w1 (.slice (some ⟨w.heap.size, 0, none⟩) 2 2) (.slice (some ⟨w.heap.size + 1, 0, none⟩) 1 1) (net2 [] [(p, k)] [])) := Lib.hid (netAt_mk (CellsAre.row d0 (by omega) rfl (by omega) (by omega)) [(⟨sT, 0, 0, [], [(p, k)], []⟩, .slice none 0 0, .slice (some ⟨w.heap.size + 1 + 1 + 1, 0, none⟩) 1 1, .slice none 0 0)] rfl (CellsAre.row d1 (by omega) rfl (by omega) (by omega)) (fun x hx => by simp at hx; subst hx; exact ⟨arcsAt_nil _, a0, arcsAt_nil _⟩))
      have Hb := Lib.hid hbo
      clear hb hbo d0 d1 d2 d3 a0
      go_wp2_with fail
      refine (check_at rfl rfl Hn.out (net2_names _ _ _) HE.out).mono ?_
      rintro e w2 ⟨rfl, hb2⟩
      have Hb2 := Lib.hid hb2
      clear hb2
      go_wp2
      go_ret
      exact ⟨rfl, Hb.out.trans (Hb2.out.mono Hb.out.size)⟩
    · have HE : Hid (checkN (net2 [] [(p, k)] []) = 3) := Lib.hid (by rw [net2_not, want1, if_pos (by simp [numB]; omega)])
      go_enter Try.func9, Try.ntmps9
      go_wp2_with fail
      refine (awake_any _).mono ?_
      rintro e w1 ⟨rfl, hb⟩
      have hz : w.heap.size + 4 ≤ w1.heap.size := by have := hb.size; simp at this; omega
      have d0 : CellsAre w1 w.heap.size 0 [.string sP, .int .i64 0, .string sQ, .int .i64 0] := CellsAre.below hb (by simp <;> omega) ⟨by go_simp, by go_simp, by go_simp, by go_simp, trivial⟩
      have d1 : CellsAre w1 (w.heap.size + 1) 0 [.string sT, .int .i64 0, .int .i64 0, .slice none 0 0, .slice (some ⟨w.heap.size + 1 + 1 + 1, 0, none⟩) 1 1, .slice none 0 0] := CellsAre.below hb (by simp <;> omega) ⟨by go_simp, by go_simp, by go_simp, by go_simp, by go_simp, by go_simp, trivial⟩
      have d3 : CellsAre w1 (w.heap.size + 1 + 1 + 1) 0 [.int .i64 p, .int .i64 k] := CellsAre.below hb (by simp <;> omega) ⟨by go_simp, by go_simp, trivial⟩
      have d2 : CellsAre w1 (w.heap.size + 1 + 1) 0 [.slice (some ⟨w.heap.size, 0, none⟩) 2 2, .slice (some ⟨w.heap.size + 1, 0, none⟩) 1 1] := CellsAre.below hb (by simp <;> omega) ⟨by go_simp, by go_simp, trivial⟩
      have b0 := d2.1
      have b1 := d2.2.1
      have hbo : Below w.heap.size w w1 := by
        refine Below.trans ?_ (hb.mono (by simp <;> omega))
        exact ((((Below.refl _ w).alloc (Nat.le_refl _) _).alloc (by simp) _).alloc (by simp <;> omega) _).alloc (by simp <;> omega) _
      have a0 : ArcsAt w1 (.slice (some ⟨w.heap.size + 1 + 1 + 1, 0, none⟩) 1 1) [(p, k)] := CellsAre.row d3 (by omega) rfl (by omega) (by omega)
      have Hn : Hid (NetAt w1 (.slice (some ⟨w.heap.size, 0, none⟩) 2 2) (.slice (some ⟨w.heap.size + 1, 0, none⟩) 1 1) (net2 [] [(p, k)] [])) := Lib.hid (netAt_mk (CellsAre.row d0 (by omega) rfl (by omega) (by omega)) [(⟨sT, 0, 0, [], [(p, k)], []⟩, .slice none 0 0, .slice (some ⟨w.heap.size + 1 + 1 + 1, 0, none⟩) 1 1, .slice none 0 0)] rfl (CellsAre.row d1 (by omega) rfl (by omega) (by omega)) (fun x hx => by simp at hx; subst hx; exact ⟨arcsAt_nil _, a0, arcsAt_nil _⟩))
      have Hb := Lib.hid hbo
      clear hb hbo d0 d1 d2 d3 a0
      go_wp2_with fail
      refine (check_at rfl rfl Hn.out (net2_names _ _ _) HE.out).mono ?_
      rintro e w2 ⟨rfl, hb2⟩
      have Hb2 := Lib.hid hb2
      clear hb2
      go_wp2
      go_ret
      exact ⟨rfl, Hb.out.trans (Hb2.out.mono Hb.out.size)⟩
    · have HE : Hid (checkN (net2 [] [(p, k)] []) = 0) := Lib.hid (by rw [net2_not, want1, if_neg (by simp [numB]; omega), if_neg (by simp [inP]; omega)])
      go_enter Try.func9, Try.ntmps9
      go_wp2_with fail
      refine (awake_any _).mono ?_
      rintro e w1 ⟨rfl, hb⟩
      have hz : w.heap.size + 4 ≤ w1.heap.size := by have := hb.size; simp at this; omega
      have d0 : CellsAre w1 w.heap.size 0 [.string sP, .int .i64 0, .string sQ, .int .i64 0] := CellsAre.below hb (by simp <;> omega) ⟨by go_simp, by go_simp, by go_simp, by go_simp, trivial⟩
      have d1 : CellsAre w1 (w.heap.size + 1) 0 [.string sT, .int .i64 0, .int .i64 0, .slice none 0 0, .slice (some ⟨w.heap.size + 1 + 1 + 1, 0, none⟩) 1 1, .slice none 0 0] := CellsAre.below hb (by simp <;> omega) ⟨by go_simp, by go_simp, by go_simp, by go_simp, by go_simp, by go_simp, trivial⟩
      have d3 : CellsAre w1 (w.heap.size + 1 + 1 + 1) 0 [.int .i64 p, .int .i64 k] := CellsAre.below hb (by simp <;> omega) ⟨by go_simp, by go_simp, trivial⟩
      have d2 : CellsAre w1 (w.heap.size + 1 + 1) 0 [.slice (some ⟨w.heap.size, 0, none⟩) 2 2, .slice (some ⟨w.heap.size + 1, 0, none⟩) 1 1] := CellsAre.below hb (by simp <;> omega) ⟨by go_simp, by go_simp, trivial⟩
      have b0 := d2.1
      have b1 := d2.2.1
      have hbo : Below w.heap.size w w1 := by
        refine Below.trans ?_ (hb.mono (by simp <;> omega))
        exact ((((Below.refl _ w).alloc (Nat.le_refl _) _).alloc (by simp) _).alloc (by simp <;> omega) _).alloc (by simp <;> omega) _
      have a0 : ArcsAt w1 (.slice (some ⟨w.heap.size + 1 + 1 + 1, 0, none⟩) 1 1) [(p, k)] := CellsAre.row d3 (by omega) rfl (by omega) (by omega)
      have Hn : Hid (NetAt w1 (.slice (some ⟨w.heap.size, 0, none⟩) 2 2) (.slice (some ⟨w.heap.size + 1, 0, none⟩) 1 1) (net2 [] [(p, k)] [])) := Lib.hid (netAt_mk (CellsAre.row d0 (by omega) rfl (by omega) (by omega)) [(⟨sT, 0, 0, [], [(p, k)], []⟩, .slice none 0 0, .slice (some ⟨w.heap.size + 1 + 1 + 1, 0, none⟩) 1 1, .slice none 0 0)] rfl (CellsAre.row d1 (by omega) rfl (by omega) (by omega)) (fun x hx => by simp at hx; subst hx; exact ⟨arcsAt_nil _, a0, arcsAt_nil _⟩))
      have Hb := Lib.hid hbo
      clear hb hbo d0 d1 d2 d3 a0
      go_wp2_with fail
      refine (check_at rfl rfl Hn.out (net2_names _ _ _) HE.out).mono ?_
      rintro e w2 ⟨rfl, hb2⟩
      have Hb2 := Lib.hid hb2
      clear hb2
      go_wp2
      go_ret
      exact ⟨rfl, Hb.out.trans (Hb2.out.mono Hb.out.size)⟩

set_option maxRecDepth 100000 in
set_option maxHeartbeats 4000000 in
theorem numbers_out (l p k : Int) (w : World) (h0 : 0 ≤ l) (h1 : l ≤ 255) (hl : ¬ l % 3 = 0) (hl1 : ¬ l % 3 = 1) :
    Calls Try.prog 9 #[.int .u8 l, .int .i64 k, .int .i64 p] w fun e w' => e = .returned (.bool true) ∧ Below w.heap.size w w' := by
  have hlb : (l % 3 == 0) = false := by simp [hl]
  have hlc : (l % 3 == 1) = false := by simp [hl1]
  clear hl hl1
  have hw : (p < 0 ∧ decide (p < 0) = true) ∨ (¬ p < 0 ∧ decide (p < 0) = false ∧ 1 < p ∧ decide (1 < p) = true) ∨ (¬ p < 0 ∧ decide (p < 0) = false ∧ ¬ 1 < p ∧ decide (1 < p) = false) := by simp; omega
  have hv : (k < 1 ∧ decide (k < 1) = true) ∨ (¬ k < 1 ∧ decide (k < 1) = false ∧ 1000000 < k ∧ decide (1000000 < k) = true) ∨ (¬ k < 1 ∧ decide (k < 1) = false ∧ ¬ 1000000 < k ∧ decide (1000000 < k) = false) := by simp; omega
  rcases hw with ⟨p1, p2⟩ | ⟨p1, p2, p3, p4⟩ | ⟨p1, p2, p3, p4⟩
  · rcases hv with ⟨k1, k2⟩ | ⟨k1, k2, k3, k4⟩ | ⟨k1, k2, k3, k4⟩
    · have HE : Hid (checkN (net2 [] [] [(p, k)]) = 3) := Lib.hid (by rw [net2_out, want1, if_pos (by simp [numB]; omega)])
      go_enter Try.func9, Try.ntmps9
      go_wp2_with fail
      refine (awake_any _).mono ?_
      rintro e w1 ⟨rfl, hb⟩
      have hz : w.heap.size + 4 ≤ w1.heap.size := by have := hb.size; simp at this; omega
      have d0 : CellsAre w1 w.heap.size 0 [.string sP, .int .i64 0, .string sQ, .int .i64 0] := CellsAre.below hb (by simp <;> omega) ⟨by go_simp, by go_simp, by go_simp, by go_simp, trivial⟩
      have d1 : CellsAre w1 (w.heap.size + 1) 0 [.string sT, .int .i64 0, .int .i64 0, .slice none 0 0, .slice none 0 0, .slice (some ⟨w.heap.size + 1 + 1 + 1, 0, none⟩) 1 1] := CellsAre.below hb (by simp <;> omega) ⟨by go_simp, by go_simp, by go_simp, by go_simp, by go_simp, by go_simp, trivial⟩
      have d3 : CellsAre w1 (w.heap.size + 1 + 1 + 1) 0 [.int .i64 p, .int .i64 k] := CellsAre.below hb (by simp <;> omega) ⟨by go_simp, by go_simp, trivial⟩
      have d2 : CellsAre w1 (w.heap.size + 1 + 1) 0 [.slice (some ⟨w.heap.size, 0, none⟩) 2 2, .slice (some ⟨w.heap.size + 1, 0, none⟩) 1 1] := CellsAre.below hb (by simp <;> omega) ⟨by go_simp, by go_simp, trivial⟩
      have b0 := d2.1
      have b1 := d2.2.1
      have hbo : Below w.heap.size w w1 := by
        refine Below.trans ?_ (hb.mono (by simp <;> omega))
        exact ((((Below.refl _ w).alloc (Nat.le_refl _) _).alloc (by simp) _).alloc (by simp <;> omega) _).alloc (by simp <;> omega) _
      have a0 : ArcsAt w1 (.slice (some ⟨w.heap.size + 1 + 1 + 1, 0, none⟩) 1 1) [(p, k)] := CellsAre.row d3 (by omega) rfl (by omega) (by omega)
      have Hn : Hid (NetAt w1 (.slice (some ⟨w.heap.size, 0, none⟩) 2 2) (.slice (some ⟨w.heap.size + 1, 0, none⟩) 1 1) (net2 [] [] [(p, k)])) := Lib.hid (netAt_mk (CellsAre.row d0 (by omega) rfl (by omega) (by omega)) [(⟨sT, 0, 0, [], [], [(p, k)]⟩, .slice none 0 0, .slice none 0 0, .slice (some ⟨w.heap.size + 1 + 1 + 1, 0, none⟩) 1 1)] rfl (CellsAre.row d1 (by omega) rfl (by omega) (by omega)) (fun x hx => by simp at hx; subst hx; exact ⟨arcsAt_nil _, arcsAt_nil _, a0⟩))
      have Hb := Lib.hid hbo
      clear hb hbo d0 d1 d2 d3 a0
      go_wp2_with fail
      refine (check_at rfl rfl Hn.out (net2_names _ _ _) HE.out).mono ?_
      rintro e w2 ⟨rfl, hb2⟩
      have Hb2 := Lib.hid hb2
      clear hb2
      go_wp2
      go_ret
      exact ⟨rfl, Hb.out.trans (Hb2.out.mono Hb.out.size)⟩
    · have HE : Hid (checkN (net2 [] [] [(p, k)]) = 3) := Lib.hid (by rw [net2_out, want1, if_pos (by simp [numB]; omega)])
      go_enter Try.func9, Try.ntmps9
      go_wp2_with fail
      refine (awake_any _).mono ?_
      rintro e w1 ⟨rfl, hb⟩
      have hz : w.heap.size + 4 ≤ w1.heap.size := by have := hb.size; simp at this; omega
      have d0 : CellsAre w1 w.heap.size 0 [.string sP, .int .i64 0, .string sQ, .int .i64 0] := CellsAre.below hb (by simp <;> omega) ⟨by go_simp, by go_simp, by go_simp, by go_simp, trivial⟩
      have d1 : CellsAre w1 (w.heap.size + 1) 0 [.string sT, .int .i64 0, .int .i64 0, .slice none 0 0, .slice none 0 0, .slice (some ⟨w.heap.size + 1 + 1 + 1, 0, none⟩) 1 1] := CellsAre.below hb (by simp <;> omega) ⟨by go_simp, by go_simp, by go_simp, by go_simp, by go_simp, by go_simp, trivial⟩
      have d3 : CellsAre w1 (w.heap.size + 1 + 1 + 1) 0 [.int .i64 p, .int .i64 k] := CellsAre.below hb (by simp <;> omega) ⟨by go_simp, by go_simp, trivial⟩
      have d2 : CellsAre w1 (w.heap.size + 1 + 1) 0 [.slice (some ⟨w.heap.size, 0, none⟩) 2 2, .slice (some ⟨w.heap.size + 1, 0, none⟩) 1 1] := CellsAre.below hb (by simp <;> omega) ⟨by go_simp, by go_simp, trivial⟩
      have b0 := d2.1
      have b1 := d2.2.1
      have hbo : Below w.heap.size w w1 := by
        refine Below.trans ?_ (hb.mono (by simp <;> omega))
        exact ((((Below.refl _ w).alloc (Nat.le_refl _) _).alloc (by simp) _).alloc (by simp <;> omega) _).alloc (by simp <;> omega) _
      have a0 : ArcsAt w1 (.slice (some ⟨w.heap.size + 1 + 1 + 1, 0, none⟩) 1 1) [(p, k)] := CellsAre.row d3 (by omega) rfl (by omega) (by omega)
      have Hn : Hid (NetAt w1 (.slice (some ⟨w.heap.size, 0, none⟩) 2 2) (.slice (some ⟨w.heap.size + 1, 0, none⟩) 1 1) (net2 [] [] [(p, k)])) := Lib.hid (netAt_mk (CellsAre.row d0 (by omega) rfl (by omega) (by omega)) [(⟨sT, 0, 0, [], [], [(p, k)]⟩, .slice none 0 0, .slice none 0 0, .slice (some ⟨w.heap.size + 1 + 1 + 1, 0, none⟩) 1 1)] rfl (CellsAre.row d1 (by omega) rfl (by omega) (by omega)) (fun x hx => by simp at hx; subst hx; exact ⟨arcsAt_nil _, arcsAt_nil _, a0⟩))
      have Hb := Lib.hid hbo
      clear hb hbo d0 d1 d2 d3 a0
      go_wp2_with fail
      refine (check_at rfl rfl Hn.out (net2_names _ _ _) HE.out).mono ?_
      rintro e w2 ⟨rfl, hb2⟩
      have Hb2 := Lib.hid hb2
      clear hb2
      go_wp2
      go_ret
      exact ⟨rfl, Hb.out.trans (Hb2.out.mono Hb.out.size)⟩
    · have HE : Hid (checkN (net2 [] [] [(p, k)]) = 2) := Lib.hid (by rw [net2_out, want1, if_neg (by simp [numB]; omega), if_pos (by simp [inP]; omega)])
      go_enter Try.func9, Try.ntmps9
      go_wp2_with fail
      refine (awake_any _).mono ?_
      rintro e w1 ⟨rfl, hb⟩
      have hz : w.heap.size + 4 ≤ w1.heap.size := by have := hb.size; simp at this; omega
      have d0 : CellsAre w1 w.heap.size 0 [.string sP, .int .i64 0, .string sQ, .int .i64 0] := CellsAre.below hb (by simp <;> omega) ⟨by go_simp, by go_simp, by go_simp, by go_simp, trivial⟩
      have d1 : CellsAre w1 (w.heap.size + 1) 0 [.string sT, .int .i64 0, .int .i64 0, .slice none 0 0, .slice none 0 0, .slice (some ⟨w.heap.size + 1 + 1 + 1, 0, none⟩) 1 1] := CellsAre.below hb (by simp <;> omega) ⟨by go_simp, by go_simp, by go_simp, by go_simp, by go_simp, by go_simp, trivial⟩
      have d3 : CellsAre w1 (w.heap.size + 1 + 1 + 1) 0 [.int .i64 p, .int .i64 k] := CellsAre.below hb (by simp <;> omega) ⟨by go_simp, by go_simp, trivial⟩
      have d2 : CellsAre w1 (w.heap.size + 1 + 1) 0 [.slice (some ⟨w.heap.size, 0, none⟩) 2 2, .slice (some ⟨w.heap.size + 1, 0, none⟩) 1 1] := CellsAre.below hb (by simp <;> omega) ⟨by go_simp, by go_simp, trivial⟩
      have b0 := d2.1
      have b1 := d2.2.1
      have hbo : Below w.heap.size w w1 := by
        refine Below.trans ?_ (hb.mono (by simp <;> omega))
        exact ((((Below.refl _ w).alloc (Nat.le_refl _) _).alloc (by simp) _).alloc (by simp <;> omega) _).alloc (by simp <;> omega) _
      have a0 : ArcsAt w1 (.slice (some ⟨w.heap.size + 1 + 1 + 1, 0, none⟩) 1 1) [(p, k)] := CellsAre.row d3 (by omega) rfl (by omega) (by omega)
      have Hn : Hid (NetAt w1 (.slice (some ⟨w.heap.size, 0, none⟩) 2 2) (.slice (some ⟨w.heap.size + 1, 0, none⟩) 1 1) (net2 [] [] [(p, k)])) := Lib.hid (netAt_mk (CellsAre.row d0 (by omega) rfl (by omega) (by omega)) [(⟨sT, 0, 0, [], [], [(p, k)]⟩, .slice none 0 0, .slice none 0 0, .slice (some ⟨w.heap.size + 1 + 1 + 1, 0, none⟩) 1 1)] rfl (CellsAre.row d1 (by omega) rfl (by omega) (by omega)) (fun x hx => by simp at hx; subst hx; exact ⟨arcsAt_nil _, arcsAt_nil _, a0⟩))
      have Hb := Lib.hid hbo
      clear hb hbo d0 d1 d2 d3 a0
      go_wp2_with fail
      refine (check_at rfl rfl Hn.out (net2_names _ _ _) HE.out).mono ?_
      rintro e w2 ⟨rfl, hb2⟩
      have Hb2 := Lib.hid hb2
      clear hb2
      go_wp2
      go_ret
      exact ⟨rfl, Hb.out.trans (Hb2.out.mono Hb.out.size)⟩
  · rcases hv with ⟨k1, k2⟩ | ⟨k1, k2, k3, k4⟩ | ⟨k1, k2, k3, k4⟩
    · have HE : Hid (checkN (net2 [] [] [(p, k)]) = 3) := Lib.hid (by rw [net2_out, want1, if_pos (by simp [numB]; omega)])
      go_enter Try.func9, Try.ntmps9
      go_wp2_with fail
      refine (awake_any _).mono ?_
      rintro e w1 ⟨rfl, hb⟩
      have hz : w.heap.size + 4 ≤ w1.heap.size := by have := hb.size; simp at this; omega
      have d0 : CellsAre w1 w.heap.size 0 [.string sP, .int .i64 0, .string sQ, .int .i64 0] := CellsAre.below hb (by simp <;> omega) ⟨by go_simp, by go_simp, by go_simp, by go_simp, trivial⟩
      have d1 : CellsAre w1 (w.heap.size + 1) 0 [.string sT, .int .i64 0, .int .i64 0, .slice none 0 0, .slice none 0 0, .slice (some ⟨w.heap.size + 1 + 1 + 1, 0, none⟩) 1 1] := CellsAre.below hb (by simp <;> omega) ⟨by go_simp, by go_simp, by go_simp, by go_simp, by go_simp, by go_simp, trivial⟩
      have d3 : CellsAre w1 (w.heap.size + 1 + 1 + 1) 0 [.int .i64 p, .int .i64 k] := CellsAre.below hb (by simp <;> omega) ⟨by go_simp, by go_simp, trivial⟩
      have d2 : CellsAre w1 (w.heap.size + 1 + 1) 0 [.slice (some ⟨w.heap.size, 0, none⟩) 2 2, .slice (some ⟨w.heap.size + 1, 0, none⟩) 1 1] := CellsAre.below hb (by simp <;> omega) ⟨by go_simp, by go_simp, trivial⟩
      have b0 := d2.1
      have b1 := d2.2.1
      have hbo : Below w.heap.size w w1 := by
        refine Below.trans ?_ (hb.mono (by simp <;> omega))
        exact ((((Below.refl _ w).alloc (Nat.le_refl _) _).alloc (by simp) _).alloc (by simp <;> omega) _).alloc (by simp <;> omega) _
      have a0 : ArcsAt w1 (.slice (some ⟨w.heap.size + 1 + 1 + 1, 0, none⟩) 1 1) [(p, k)] := CellsAre.row d3 (by omega) rfl (by omega) (by omega)
      have Hn : Hid (NetAt w1 (.slice (some ⟨w.heap.size, 0, none⟩) 2 2) (.slice (some ⟨w.heap.size + 1, 0, none⟩) 1 1) (net2 [] [] [(p, k)])) := Lib.hid (netAt_mk (CellsAre.row d0 (by omega) rfl (by omega) (by omega)) [(⟨sT, 0, 0, [], [], [(p, k)]⟩, .slice none 0 0, .slice none 0 0, .slice (some ⟨w.heap.size + 1 + 1 + 1, 0, none⟩) 1 1)] rfl (CellsAre.row d1 (by omega) rfl (by omega) (by omega)) (fun x hx => by simp at hx; subst hx; exact ⟨arcsAt_nil _, arcsAt_nil _, a0⟩))
      have Hb := Lib.hid hbo
      clear hb hbo d0 d1 d2 d3 a0
      go_wp2_with fail
      refine (check_at rfl rfl Hn.out (net2_names _ _ _) HE.out).mono ?_
      rintro e w2 ⟨rfl, hb2⟩
      have Hb2 := Lib.hid hb2
      clear hb2
      go_wp2
      go_ret
      exact ⟨rfl, Hb.out.trans (Hb2.out.mono Hb.out.size)⟩
    · have HE : Hid (checkN (net2 [] [] [(p, k)]) = 3) := Lib.hid (by rw [net2_out, want1, if_pos (by simp [numB]; omega)])
      go_enter Try.func9, Try.ntmps9
      go_wp2_with fail
      refine (awake_any _).mono ?_
      rintro e w1 ⟨rfl, hb⟩
      have hz : w.heap.size + 4 ≤ w1.heap.size := by have := hb.size; simp at this; omega
      have d0 : CellsAre w1 w.heap.size 0 [.string sP, .int .i64 0, .string sQ, .int .i64 0] := CellsAre.below hb (by simp <;> omega) ⟨by go_simp, by go_simp, by go_simp, by go_simp, trivial⟩
      have d1 : CellsAre w1 (w.heap.size + 1) 0 [.string sT, .int .i64 0, .int .i64 0, .slice none 0 0, .slice none 0 0, .slice (some ⟨w.heap.size + 1 + 1 + 1, 0, none⟩) 1 1] := CellsAre.below hb (by simp <;> omega) ⟨by go_simp, by go_simp, by go_simp, by go_simp, by go_simp, by go_simp, trivial⟩
      have d3 : CellsAre w1 (w.heap.size + 1 + 1 + 1) 0 [.int .i64 p, .int .i64 k] := CellsAre.below hb (by simp <;> omega) ⟨by go_simp, by go_simp, trivial⟩
      have d2 : CellsAre w1 (w.heap.size + 1 + 1) 0 [.slice (some ⟨w.heap.size, 0, none⟩) 2 2, .slice (some ⟨w.heap.size + 1, 0, none⟩) 1 1] := CellsAre.below hb (by simp <;> omega) ⟨by go_simp, by go_simp, trivial⟩
      have b0 := d2.1
      have b1 := d2.2.1
      have hbo : Below w.heap.size w w1 := by
        refine Below.trans ?_ (hb.mono (by simp <;> omega))
        exact ((((Below.refl _ w).alloc (Nat.le_refl _) _).alloc (by simp) _).alloc (by simp <;> omega) _).alloc (by simp <;> omega) _
      have a0 : ArcsAt w1 (.slice (some ⟨w.heap.size + 1 + 1 + 1, 0, none⟩) 1 1) [(p, k)] := CellsAre.row d3 (by omega) rfl (by omega) (by omega)
      have Hn : Hid (NetAt w1 (.slice (some ⟨w.heap.size, 0, none⟩) 2 2) (.slice (some ⟨w.heap.size + 1, 0, none⟩) 1 1) (net2 [] [] [(p, k)])) := Lib.hid (netAt_mk (CellsAre.row d0 (by omega) rfl (by omega) (by omega)) [(⟨sT, 0, 0, [], [], [(p, k)]⟩, .slice none 0 0, .slice none 0 0, .slice (some ⟨w.heap.size + 1 + 1 + 1, 0, none⟩) 1 1)] rfl (CellsAre.row d1 (by omega) rfl (by omega) (by omega)) (fun x hx => by simp at hx; subst hx; exact ⟨arcsAt_nil _, arcsAt_nil _, a0⟩))
      have Hb := Lib.hid hbo
      clear hb hbo d0 d1 d2 d3 a0
      go_wp2_with fail
      refine (check_at rfl rfl Hn.out (net2_names _ _ _) HE.out).mono ?_
      rintro e w2 ⟨rfl, hb2⟩
      have Hb2 := Lib.hid hb2
      clear hb2
      go_wp2
      go_ret
      exact ⟨rfl, Hb.out.trans (Hb2.out.mono Hb.out.size)⟩
    · have HE : Hid (checkN (net2 [] [] [(p, k)]) = 2) := Lib.hid (by rw [net2_out, want1, if_neg (by simp [numB]; omega), if_pos (by simp [inP]; omega)])
      go_enter Try.func9, Try.ntmps9
      go_wp2_with fail
      refine (awake_any _).mono ?_
      rintro e w1 ⟨rfl, hb⟩
      have hz : w.heap.size + 4 ≤ w1.heap.size := by have := hb.size; simp at this; omega
      have d0 : CellsAre w1 w.heap.size 0 [.string sP, .int .i64 0, .string sQ, .int .i64 0] := CellsAre.below hb (by simp <;> omega) ⟨by go_simp, by go_simp, by go_simp, by go_simp, trivial⟩
      have d1 : CellsAre w1 (w.heap.size + 1) 0 [.string sT, .int .i64 0, .int .i64 0, .slice none 0 0, .slice none 0 0, .slice (some ⟨w.heap.size + 1 + 1 + 1, 0, none⟩) 1 1] := CellsAre.below hb (by simp <;> omega) ⟨by go_simp, by go_simp, by go_simp, by go_simp, by go_simp, by go_simp, trivial⟩
      have d3 : CellsAre w1 (w.heap.size + 1 + 1 + 1) 0 [.int .i64 p, .int .i64 k] := CellsAre.below hb (by simp <;> omega) ⟨by go_simp, by go_simp, trivial⟩
      have d2 : CellsAre w1 (w.heap.size + 1 + 1) 0 [.slice (some ⟨w.heap.size, 0, none⟩) 2 2, .slice (some ⟨w.heap.size + 1, 0, none⟩) 1 1] := CellsAre.below hb (by simp <;> omega) ⟨by go_simp, by go_simp, trivial⟩
      have b0 := d2.1
      have b1 := d2.2.1
      have hbo : Below w.heap.size w w1 := by
        refine Below.trans ?_ (hb.mono (by simp <;> omega))
        exact ((((Below.refl _ w).alloc (Nat.le_refl _) _).alloc (by simp) _).alloc (by simp <;> omega) _).alloc (by simp <;> omega) _
      have a0 : ArcsAt w1 (.slice (some ⟨w.heap.size + 1 + 1 + 1, 0, none⟩) 1 1) [(p, k)] := CellsAre.row d3 (by omega) rfl (by omega) (by omega)
      have Hn : Hid (NetAt w1 (.slice (some ⟨w.heap.size, 0, none⟩) 2 2) (.slice (some ⟨w.heap.size + 1, 0, none⟩) 1 1) (net2 [] [] [(p, k)])) := Lib.hid (netAt_mk (CellsAre.row d0 (by omega) rfl (by omega) (by omega)) [(⟨sT, 0, 0, [], [], [(p, k)]⟩, .slice none 0 0, .slice none 0 0, .slice (some ⟨w.heap.size + 1 + 1 + 1, 0, none⟩) 1 1)] rfl (CellsAre.row d1 (by omega) rfl (by omega) (by omega)) (fun x hx => by simp at hx; subst hx; exact ⟨arcsAt_nil _, arcsAt_nil _, a0⟩))
      have Hb := Lib.hid hbo
      clear hb hbo d0 d1 d2 d3 a0
      go_wp2_with fail
      refine (check_at rfl rfl Hn.out (net2_names _ _ _) HE.out).mono ?_
      rintro e w2 ⟨rfl, hb2⟩
      have Hb2 := Lib.hid hb2
      clear hb2
      go_wp2
      go_ret
      exact ⟨rfl, Hb.out.trans (Hb2.out.mono Hb.out.size)⟩
  · rcases hv with ⟨k1, k2⟩ | ⟨k1, k2, k3, k4⟩ | ⟨k1, k2, k3, k4⟩
    · have HE : Hid (checkN (net2 [] [] [(p, k)]) = 3) := Lib.hid (by rw [net2_out, want1, if_pos (by simp [numB]; omega)])
      go_enter Try.func9, Try.ntmps9
      go_wp2_with fail
      refine (awake_any _).mono ?_
      rintro e w1 ⟨rfl, hb⟩
      have hz : w.heap.size + 4 ≤ w1.heap.size := by have := hb.size; simp at this; omega
      have d0 : CellsAre w1 w.heap.size 0 [.string sP, .int .i64 0, .string sQ, .int .i64 0] := CellsAre.below hb (by simp <;> omega) ⟨by go_simp, by go_simp, by go_simp, by go_simp, trivial⟩
      have d1 : CellsAre w1 (w.heap.size + 1) 0 [.string sT, .int .i64 0, .int .i64 0, .slice none 0 0, .slice none 0 0, .slice (some ⟨w.heap.size + 1 + 1 + 1, 0, none⟩) 1 1] := CellsAre.below hb (by simp <;> omega) ⟨by go_simp, by go_simp, by go_simp, by go_simp, by go_simp, by go_simp, trivial⟩
      have d3 : CellsAre w1 (w.heap.size + 1 + 1 + 1) 0 [.int .i64 p, .int .i64 k] := CellsAre.below hb (by simp <;> omega) ⟨by go_simp, by go_simp, trivial⟩
      have d2 : CellsAre w1 (w.heap.size + 1 + 1) 0 [.slice (some ⟨w.heap.size, 0, none⟩) 2 2, .slice (some ⟨w.heap.size + 1, 0, none⟩) 1 1] := CellsAre.below hb (by simp <;> omega) ⟨by go_simp, by go_simp, trivial⟩
      have b0 := d2.1
      have b1 := d2.2.1
      have hbo : Below w.heap.size w w1 := by
        refine Below.trans ?_ (hb.mono (by simp <;> omega))
        exact ((((Below.refl _ w).alloc (Nat.le_refl _) _).alloc (by simp) _).alloc (by simp <;> omega) _).alloc (by simp <;> omega) _
      have a0 : ArcsAt w1 (.slice (some ⟨w.heap.size + 1 + 1 + 1, 0, none⟩) 1 1) [(p, k)] := CellsAre.row d3 (by omega) rfl (by omega) (by omega)
      have Hn : Hid (NetAt w1 (.slice (some ⟨w.heap.size, 0, none⟩) 2 2) (.slice (some ⟨w.heap.size + 1, 0, none⟩) 1 1) (net2 [] [] [(p, k)])) := Lib.hid (netAt_mk (CellsAre.row d0 (by omega) rfl (by omega) (by omega)) [(⟨sT, 0, 0, [], [], [(p, k)]⟩, .slice none 0 0, .slice none 0 0, .slice (some ⟨w.heap.size + 1 + 1 + 1, 0, none⟩) 1 1)] rfl (CellsAre.row d1 (by omega) rfl (by omega) (by omega)) (fun x hx => by simp at hx; subst hx; exact ⟨arcsAt_nil _, arcsAt_nil _, a0⟩))
      have Hb := Lib.hid hbo
      clear hb hbo d0 d1 d2 d3 a0
      go_wp2_with fail
      refine (check_at rfl rfl Hn.out (net2_names _ _ _) HE.out).mono ?_
      rintro e w2 ⟨rfl, hb2⟩
      have Hb2 := Lib.hid hb2
      clear hb2
      go_wp2
      go_ret
      exact ⟨rfl, Hb.out.trans (Hb2.out.mono Hb.out.size)⟩
    · have HE : Hid (checkN (net2 [] [] [(p, k)]) = 3) := Lib.hid (by rw [net2_out, want1, if_pos (by simp [numB]; omega)])
      go_enter Try.func9, Try.ntmps9
      go_wp2_with fail
      refine (awake_any _).mono ?_
      rintro e w1 ⟨rfl, hb⟩
      have hz : w.heap.size + 4 ≤ w1.heap.size := by have := hb.size; simp at this; omega
      have d0 : CellsAre w1 w.heap.size 0 [.string sP, .int .i64 0, .string sQ, .int .i64 0] := CellsAre.below hb (by simp <;> omega) ⟨by go_simp, by go_simp, by go_simp, by go_simp, trivial⟩
      have d1 : CellsAre w1 (w.heap.size + 1) 0 [.string sT, .int .i64 0, .int .i64 0, .slice none 0 0, .slice none 0 0, .slice (some ⟨w.heap.size + 1 + 1 + 1, 0, none⟩) 1 1] := CellsAre.below hb (by simp <;> omega) ⟨by go_simp, by go_simp, by go_simp, by go_simp, by go_simp, by go_simp, trivial⟩
      have d3 : CellsAre w1 (w.heap.size + 1 + 1 + 1) 0 [.int .i64 p, .int .i64 k] := CellsAre.below hb (by simp <;> omega) ⟨by go_simp, by go_simp, trivial⟩
      have d2 : CellsAre w1 (w.heap.size + 1 + 1) 0 [.slice (some ⟨w.heap.size, 0, none⟩) 2 2, .slice (some ⟨w.heap.size + 1, 0, none⟩) 1 1] := CellsAre.below hb (by simp <;> omega) ⟨by go_simp, by go_simp, trivial⟩
      have b0 := d2.1
      have b1 := d2.2.1
      have hbo : Below w.heap.size w w1 := by
        refine Below.trans ?_ (hb.mono (by simp <;> omega))
        exact ((((Below.refl _ w).alloc (Nat.le_refl _) _).alloc (by simp) _).alloc (by simp <;> omega) _).alloc (by simp <;> omega) _
      have a0 : ArcsAt w1 (.slice (some ⟨w.heap.size + 1 + 1 + 1, 0, none⟩) 1 1) [(p, k)] := CellsAre.row d3 (by omega) rfl (by omega) (by omega)
      have Hn : Hid (NetAt w1 (.slice (some ⟨w.heap.size, 0, none⟩) 2 2) (.slice (some ⟨w.heap.size + 1, 0, none⟩) 1 1) (net2 [] [] [(p, k)])) := Lib.hid (netAt_mk (CellsAre.row d0 (by omega) rfl (by omega) (by omega)) [(⟨sT, 0, 0, [], [], [(p, k)]⟩, .slice none 0 0, .slice none 0 0, .slice (some ⟨w.heap.size + 1 + 1 + 1, 0, none⟩) 1 1)] rfl (CellsAre.row d1 (by omega) rfl (by omega) (by omega)) (fun x hx => by simp at hx; subst hx; exact ⟨arcsAt_nil _, arcsAt_nil _, a0⟩))
      have Hb := Lib.hid hbo
      clear hb hbo d0 d1 d2 d3 a0
      go_wp2_with fail
      refine (check_at rfl rfl Hn.out (net2_names _ _ _) HE.out).mono ?_
      rintro e w2 ⟨rfl, hb2⟩
      have Hb2 := Lib.hid hb2
      clear hb2
      go_wp2
      go_ret
      exact ⟨rfl, Hb.out.trans (Hb2.out.mono Hb.out.size)⟩
    · have HE : Hid (checkN (net2 [] [] [(p, k)]) = 0) := Lib.hid (by rw [net2_out, want1, if_neg (by simp [numB]; omega), if_neg (by simp [inP]; omega)])
      go_enter Try.func9, Try.ntmps9
      go_wp2_with fail
      refine (awake_any _).mono ?_
      rintro e w1 ⟨rfl, hb⟩
      have hz : w.heap.size + 4 ≤ w1.heap.size := by have := hb.size; simp at this; omega
      have d0 : CellsAre w1 w.heap.size 0 [.string sP, .int .i64 0, .string sQ, .int .i64 0] := CellsAre.below hb (by simp <;> omega) ⟨by go_simp, by go_simp, by go_simp, by go_simp, trivial⟩
      have d1 : CellsAre w1 (w.heap.size + 1) 0 [.string sT, .int .i64 0, .int .i64 0, .slice none 0 0, .slice none 0 0, .slice (some ⟨w.heap.size + 1 + 1 + 1, 0, none⟩) 1 1] := CellsAre.below hb (by simp <;> omega) ⟨by go_simp, by go_simp, by go_simp, by go_simp, by go_simp, by go_simp, trivial⟩
      have d3 : CellsAre w1 (w.heap.size + 1 + 1 + 1) 0 [.int .i64 p, .int .i64 k] := CellsAre.below hb (by simp <;> omega) ⟨by go_simp, by go_simp, trivial⟩
      have d2 : CellsAre w1 (w.heap.size + 1 + 1) 0 [.slice (some ⟨w.heap.size, 0, none⟩) 2 2, .slice (some ⟨w.heap.size + 1, 0, none⟩) 1 1] := CellsAre.below hb (by simp <;> omega) ⟨by go_simp, by go_simp, trivial⟩
      have b0 := d2.1
      have b1 := d2.2.1
      have hbo : Below w.heap.size w w1 := by
        refine Below.trans ?_ (hb.mono (by simp <;> omega))
        exact ((((Below.refl _ w).alloc (Nat.le_refl _) _).alloc (by simp) _).alloc (by simp <;> omega) _).alloc (by simp <;> omega) _
      have a0 : ArcsAt w1 (.slice (some ⟨w.heap.size + 1 + 1 + 1, 0, none⟩) 1 1) [(p, k)] := CellsAre.row d3 (by omega) rfl (by omega) (by omega)
      have Hn : Hid (NetAt w1 (.slice (some ⟨w.heap.size, 0, none⟩) 2 2) (.slice (some ⟨w.heap.size + 1, 0, none⟩) 1 1) (net2 [] [] [(p, k)])) := Lib.hid (netAt_mk (CellsAre.row d0 (by omega) rfl (by omega) (by omega)) [(⟨sT, 0, 0, [], [], [(p, k)]⟩, .slice none 0 0, .slice none 0 0, .slice (some ⟨w.heap.size + 1 + 1 + 1, 0, none⟩) 1 1)] rfl (CellsAre.row d1 (by omega) rfl (by omega) (by omega)) (fun x hx => by simp at hx; subst hx; exact ⟨arcsAt_nil _, arcsAt_nil _, a0⟩))
      have Hb := Lib.hid hbo
      clear hb hbo d0 d1 d2 d3 a0
      go_wp2_with fail
      refine (check_at rfl rfl Hn.out (net2_names _ _ _) HE.out).mono ?_
      rintro e w2 ⟨rfl, hb2⟩
      have Hb2 := Lib.hid hb2
      clear hb2
      go_wp2
      go_ret
      exact ⟨rfl, Hb.out.trans (Hb2.out.mono Hb.out.size)⟩

theorem numbers_law (l p k : Int) (w : World) (h0 : 0 ≤ l) (h1 : l ≤ 255) :
    Calls Try.prog 9 #[.int .u8 l, .int .i64 k, .int .i64 p] w fun e w' => e = .returned (.bool true) ∧ Below w.heap.size w w' := by
  by_cases hl : l % 3 = 0
  · exact numbers_in l p k w h0 h1 hl
  · by_cases hl1 : l % 3 = 1
    · exact numbers_not l p k w h0 h1 hl1
    · exact numbers_out l p k w h0 h1 hl hl1
end Go.Proofs.Ytjkkddocopolcaa
