/-
  The document's own example, that the laws of layer 8 ask first: it answers true.
  Conditions: none.
-/
import Derived.Test.YtpllpofoclijlaaMarkC
import Derived.Test.YtpllpofoclijlaaNamed
namespace Go.Proofs.Ytpllpofoclijlaa
open Go.RowKit
set_option linter.unusedVariables false

theorem NetAt.form8 {w : World} {vp vt : Value} {N : Nt} (h : NetAt w vp vt N) : ∃ a1 n1 c1 a2 n2 c2, vp = .slice a1 n1 c1 ∧ vt = .slice a2 n2 c2 ∧ n1 = N.places.length ∧ n2 = N.trans.length := by
  obtain ⟨h1, l, hl, h2⟩ := h
  obtain ⟨a1, c1, e1⟩ := RowAt.len h1
  obtain ⟨a2, c2, e2⟩ := RowAt.len h2.1
  exact ⟨a1, _, c1, a2, _, c2, e1, e2, rfl, by rw [← hl, List.length_map]⟩

def trW (p : Int) : Tr := ⟨{ data := #[] }, 0, p, [], [], []⟩
def netW : Nt := ⟨[], [trW 3, trW 1]⟩
theorem netW_trans : (namedN netW).trans = [rnT 0 (trW 3), rnT 1 (trW 1)] := rfl
theorem netW_best : bestTo [] (namedN netW).trans 2 = 1 := by decide
theorem netW_fits : FitsN [] (namedN netW) := by
  rw [FitsN, netW_trans]
  intro t ht
  simp at ht
  rcases ht with rfl | rfl <;> exact ⟨(fun a ha => by cases ha), (fun a ha => by cases ha)⟩

theorem netW_at (w : World) : NetAt (w.alloc (.cells #[.string { data := #[] }, .int .i64 0, .int .i64 3, .slice none 0 0, .slice none 0 0, .slice none 0 0, .string { data := #[] }, .int .i64 0, .int .i64 1, .slice none 0 0, .slice none 0 0, .slice none 0 0] 40)) (.slice none 0 0) (.slice (some ⟨w.heap.size, 0, none⟩) 2 2) netW := by
  refine ⟨RowAt.nil _ _, [(trW 3, .slice none 0 0, .slice none 0 0, .slice none 0 0), (trW 1, .slice none 0 0, .slice none 0 0, .slice none 0 0)], rfl, RowAt.of_block (heap_alloc_new w _) 2 rfl (Nat.le_refl _) (by unfold maxLen; omega), ?_⟩
  intro x hx
  simp at hx
  rcases hx with rfl | rfl <;> exact ⟨RowAt.nil _ _, RowAt.nil _ _, RowAt.nil _ _⟩

set_option maxRecDepth 100000 in
set_option maxHeartbeats 1000000 in
theorem awake8_any (w : World) : Calls Try.prog 14 #[] w fun e w' => e = .returned (.bool true) ∧ Below w.heap.size w w' := by
  have hn := named_any (n := netW) rfl rfl (by decide) (by decide) (netW_at w)
  have Hn := Lib.hid hn
  have Hb0 := Lib.hid ((Below.refl w.heap.size w).alloc (Nat.le_refl _) (.cells #[.string { data := #[] }, .int .i64 0, .int .i64 3, .slice none 0 0, .slice none 0 0, .slice none 0 0, .string { data := #[] }, .int .i64 0, .int .i64 1, .slice none 0 0, .slice none 0 0, .slice none 0 0] 40))
  clear hn
  go_enter Try.func14, Try.ntmps14
  go_wp2_with fail
  refine Hn.out.mono ?_
  rintro e w1 ⟨vp, vt, rfl, hnet, hb⟩
  obtain ⟨a1, n1, c1, a2, n2, c2, rfl, rfl, h1, h2⟩ := hnet.form8
  have Hb1 := Lib.hid (Hb0.out.trans (hb.mono (by simp)))
  have hnew : Below w1.heap.size w1 (w1.alloc (.cells #[.slice a1 n1 c1, .slice a2 n2 c2] 30)) := (Below.refl _ _).alloc (Nat.le_refl _) _
  have Hbest := Lib.hid (best_any (n := namedN netW) (m := []) h2 (am := none) (cm := 0) (nm := 0) rfl (hnet.below hnew) (RowAt.nil _ _) netW_fits 1 (by rw [h2]; exact netW_best.symm))
  have Hah := Lib.hid (fun (W : World) (hW : Below w1.heap.size w1 W) => ahead_any (n := namedN netW) h2 (hnet.below hW) (a := 1) (b := 0) (ta := rnT 1 (trW 1)) (tb := rnT 0 (trW 3)) rfl rfl true (by decide))
  have Hnew := Lib.hid hnew
  clear hnet hb hnew h1 h2
  go_wp2_with fail
  refine Hbest.out.mono ?_
  rintro e w2 ⟨rfl, hb2⟩
  have hb3 := Hnew.out.trans (hb2.mono Hnew.out.size)
  have c0 : w2.cell? ⟨w1.heap.size, 0, none⟩ = some (.slice a1 n1 c1) := (hb2.cell (p := ⟨w1.heap.size, 0, none⟩) (by simp)).trans (by go_simp)
  have c1' : w2.cell? ⟨w1.heap.size, 1, none⟩ = some (.slice a2 n2 c2) := (hb2.cell (p := ⟨w1.heap.size, 1, none⟩) (by simp)).trans (by go_simp)
  have Hb3 := Lib.hid hb3
  clear hb2 hb3
  go_wp2_with fail
  refine (Hah.out _ Hb3.out).mono ?_
  rintro e w3 ⟨rfl, hb4⟩
  have Hb4 := Lib.hid hb4
  clear hb4
  go_wp2
  go_ret
  exact ⟨rfl, (Hb1.out.trans (Hb3.out.mono Hb1.out.size)).trans (Hb4.out.mono (Nat.le_trans Hb1.out.size Hb3.out.size))⟩
end Go.Proofs.Ytpllpofoclijlaa
