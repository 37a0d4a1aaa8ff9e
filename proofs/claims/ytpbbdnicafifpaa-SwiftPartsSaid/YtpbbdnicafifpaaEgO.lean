/-
  What Told of the engine comes to: all that is told, and it is told no more.
  Conditions: none beyond each theorem's own.
-/
import Derived.Test.YtpbbdnicafifpaaEgL
namespace Go.Proofs.Ytpbbdnicafifpaa
open Go.RowKit
set_option linter.unusedVariables false

theorem perm_ends {α : Type} (a b : List α) (x y : α) : (a ++ x :: b ++ [y]).Perm (a ++ y :: b ++ [x]) := by
  rw [List.append_assoc, List.append_assoc]
  refine List.Perm.append_left a ?_
  have h1 : (x :: b ++ [y]).Perm (x :: y :: b) := List.Perm.cons x (List.perm_append_comm (l₂ := [y]))
  have h2 : (y :: x :: b).Perm (y :: b ++ [x]) := List.Perm.cons y (List.perm_append_comm (l₁ := [x]))
  exact h1.trans ((List.Perm.swap y x b).trans h2)

theorem EgAt.tellAll {w0 w : World} {c : EC} {e : Eg} (h : EgAt w0 w c e) : ∃ a cap, w.cell? ⟨c.b, 7, none⟩ = some (.slice a e.told.length cap) ∧ EgAt w0 (w.setCell ⟨c.b, 7, none⟩ (.slice none 0 0)) (c.plus (evRow (.slice a e.told.length cap) e.told)) {e with told := []} := by
  have hb := h.cells.2.2.2.2.2.2.2.2.2
  obtain ⟨vd, vr, vo, vl, h1, h2⟩ := h
  have hB := h1.own (boxRow c.b 105 (egCs c vd vr vo vl e.t)) (by simp [egRows])
  have hF : OwnE w0.heap.size w vo e.told := h1.own (evRow vo e.told) (by simp [egRows])
  obtain ⟨a, cap, rfl⟩ := own_form hF
  refine ⟨a, cap, boxRow.cell hB rfl, ?_⟩
  have h3 := AllOwn.store (pre := []) (b := c.b) (t := 105) (cs := egCs c vd vr (.slice a e.told.length cap) vl e.t) (post := [keyRow vd e.due, keyRow vr e.rdy, boolRow c.vq e.qd, evRow (.slice a e.told.length cap) e.told, fiRow vl e.log, intRow c.vm e.m, intRow c.vw e.way] ++ c.fix) h1 7 (.slice none 0 0)
  have h4 := h3.1.add (Below.refl _ _) (r := evRow (.slice none 0 0) []) (ownNil _ _ _ _) (fun k e => by cases e)
  have h5 := h4.perm (perm_ends [boxRow c.b 105 (egCs c vd vr (.slice none 0 0) vl e.t), keyRow vd e.due, keyRow vr e.rdy, boolRow c.vq e.qd] ([fiRow vl e.log, intRow c.vm e.m, intRow c.vw e.way] ++ c.fix) (evRow (.slice a e.told.length cap) e.told) (evRow (.slice none 0 0) []))
  refine ⟨vd, vr, .slice none 0 0, vl, ?_, h2.trans (h3.2.below (fun j e => by subst e; exact hb) h2.size)⟩
  rw [EC.plus_fix]
  exact h5

set_option maxRecDepth 100000 in
set_option maxHeartbeats 4000000 in
theorem etold_any {w0 w : World} {c : EC} {e : Eg} (h : EgAt w0 w c e) :
    Calls Try.prog 37 #[.pointer (some ⟨c.b, 0, none⟩)] w fun r w' => ∃ a cap, r = .returned (.slice a e.told.length cap) ∧ EgAt w0 w' (c.plus (evRow (.slice a e.told.length cap) e.told)) {e with told := []} := by
  obtain ⟨a, cap, k7, h1⟩ := h.tellAll
  have kb := h.cells.2.2.2.2.2.2.2.2.1
  have f7 := h.froz 7
  have H1 := Lib.hid h1
  obtain ⟨n, hn⟩ : ∃ n, n = e.told.length := ⟨_, rfl⟩
  rw [← hn] at k7 H1 ⊢
  clear h h1 hn
  go_enter Try.func37, Try.ntmps37
  go_wp2
  go_ret
  exact ⟨a, cap, rfl, H1.out⟩
end Go.Proofs.Ytpbbdnicafifpaa
