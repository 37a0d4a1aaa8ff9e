/-
  A net under copy: its boxes, its rows; a new list stored into a transition's cell.
  Conditions: none beyond each theorem's own.
-/
import Derived.Test.YtpbbdnicafifpaaClone
namespace Go.Proofs.Ytpbbdnicafifpaa
open Go.RowKit
set_option linter.unusedVariables false

/-- the boxes of what is copied, of the result, of the copy; the copy's rows; more rows -/
def cpRows (w : World) (n0 n1 : Value) (bc : Nat) (vp vt : Value) (ps : List Pl) (tl : List (Tr × Value × Value × Value)) (more : List Row) : List Row :=
  [boxRow w.heap.size 31 [n0, n1], boxRow (w.heap.size + 1) 31 [.slice none 0 0, .slice none 0 0], plRow vp ps, boxRow bc 31 [vp, vt]] ++ trRow vt tl :: more
structure Cp (w wr : World) (n0 n1 : Value) (bc : Nat) (vp vt : Value) (ps : List Pl) (tl : List (Tr × Value × Value × Value)) (more : List Row) : Prop where
  all : AllOwn w.heap.size wr (cpRows w n0 n1 bc vp vt ps tl more)
  below : Below w.heap.size w wr

section
variable {w wr w' : World} {n0 n1 vp vt : Value} {bc : Nat} {ps : List Pl} {tl : List (Tr × Value × Value × Value)} {more : List Row}
theorem Cp.go (h : Cp w wr n0 n1 bc vp vt ps tl more) (hb : Below wr.heap.size wr w') : Cp w w' n0 n1 bc vp vt ps tl more := ⟨h.all.below hb, h.below.trans (hb.mono h.below.size)⟩
theorem Cp.box (h : Cp w wr n0 n1 bc vp vt ps tl more) (cs : Array Value) (t : TypeId) : Cp w (wr.alloc (.cells cs t)) n0 n1 bc vp vt ps tl (more ++ [boxRow wr.heap.size t cs.toList]) := by
  have hb : Below wr.heap.size wr (wr.alloc (.cells cs t)) := (Below.refl _ _).alloc (Nat.le_refl _) _
  have h1 := h.all.add hb (boxRow.new w.heap.size wr t cs h.below.size) (fun k e => by injection e with e; subst e; exact Nat.le_refl _)
  exact ⟨by simpa [cpRows] using h1, h.below.trans (hb.mono h.below.size)⟩
/-- the copy's box -/
theorem Cp.net (h : Cp w wr n0 n1 bc vp vt ps tl more) : wr.cell? ⟨bc, 0, none⟩ = some vp ∧ wr.cell? ⟨bc, 1, none⟩ = some vt ∧ bc < wr.heap.size ∧ wr.cell? ⟨w.heap.size + 1, 0, none⟩ = some (.slice none 0 0) ∧ wr.cell? ⟨w.heap.size + 1, 1, none⟩ = some (.slice none 0 0) ∧ (∀ j, wr.frozen? ⟨w.heap.size + 1, j, none⟩ = false) ∧ w.heap.size + 1 < wr.heap.size := by
  have h1 := h.all.own (boxRow bc 31 [vp, vt]) (by simp [cpRows])
  have h2 := h.all.own (boxRow (w.heap.size + 1) 31 [.slice none 0 0, .slice none 0 0]) (by simp [cpRows])
  exact ⟨boxRow.cell h1 rfl, boxRow.cell h1 rfl, (boxRow.lt h1).2, boxRow.cell h2 rfl, boxRow.cell h2 rfl, boxRow.froz h2, (boxRow.lt h2).2⟩
/-- a box beside -/
theorem Cp.boxAt {b : Nat} {t : TypeId} {cs : List Value} (h : Cp w wr n0 n1 bc vp vt ps tl more) (hm : boxRow b t cs ∈ more) : (∀ j x, cs[j]? = some x → wr.cell? ⟨b, j, none⟩ = some x) ∧ b < wr.heap.size := by
  have hB := h.all.own (boxRow b t cs) (by simp only [cpRows, List.mem_append, List.mem_cons]; exact .inr (.inr hm))
  exact ⟨fun j x hj => boxRow.cell hB hj, (boxRow.lt hB).2⟩
/-- the copy's transitions -/
theorem Cp.tr (h : Cp w wr n0 n1 bc vp vt ps tl more) {i : Nat} {x : Tr × Value × Value × Value} (hi : tl[i]? = some x) : ∃ b c, vt = .slice (some ⟨b, 0, none⟩) tl.length c ∧ b < wr.heap.size ∧ w.heap.size ≤ b ∧ (∀ j y, (trL x)[j]? = some y → wr.cell? ⟨b, i * 6 + j, none⟩ = some y) ∧ (∀ j, wr.frozen? ⟨b, j, none⟩ = false) := by
  have hO := h.all.own (trRow vt tl) (by simp [cpRows])
  have hlt := lt_at hi
  rcases hO.2 with ⟨_, h0⟩ | ⟨r, cap, cur, hv, hB, hb, hle, hmx, hsz, htk⟩
  · exact absurd h0 (by show tl.length ≠ 0; omega)
  · replace hv : vt = .slice (some ⟨r, 0, none⟩) tl.length cap := hv
    have hR := RowAt.of_own hO
    replace hR : RowAt 6 wr vt tl.length (tl.flatMap trL) := hR
    have hl := (World.ownsRow.lt hO r (by show vt.ownBlock = some r; rw [hv]; rfl))
    rw [hv] at hR
    obtain ⟨b', off', e, _, hc⟩ := RowAt.elem trL_len hR hi
    injection e with e
    injection e with e1 e2 _
    subst e1 e2
    refine ⟨r, cap, hv, hl.2, hl.1, fun j y hj => ?_, fun j => ?_⟩
    · have := hc j y hj; simpa using this
    · have hO' : wr.ownsRow w.heap.size 79 6 vt tl.length (tl.flatMap trL) := hO
      rw [hv] at hO'
      exact World.ownsRow.frozenAt hO' j
/-- a new list in a transition's cell -/
theorem Cp.put {b c i j : Nat} {x x' : Tr × Value × Value × Value} {u : Value} {k : List (Int × Int)} (h : Cp w wr n0 n1 bc vp vt ps tl more) (hv : vt = .slice (some ⟨b, 0, none⟩) tl.length c) (hi : tl[i]? = some x) (hb : Below wr.heap.size wr w') (hu : w'.ownsRow wr.heap.size 76 2 u k.length (k.flatMap arcL)) (hj : j < 6) (hx : trL x' = (trL x).set j u) :
    Cp w (w'.setCell ⟨b, i * 6 + j, none⟩ u) n0 n1 bc vp vt ps (tl.set i x') (more ++ [arcRow u k]) := by
  have hle := h.below.size
  have h1 := h.all.add hb (r := arcRow u k) (own_mono hu hle) (fun q e => (Row.lt (r := arcRow u k) hu e).1)
  have hO := h.all.own (trRow vt tl) (by simp [cpRows])
  have hlb : w.heap.size ≤ b := (World.ownsRow.lt hO b (by show vt.ownBlock = some b; rw [hv]; rfl)).1
  have h2 := AllOwn.storeAt (pre := [boxRow w.heap.size 31 [n0, n1], boxRow (w.heap.size + 1) 31 [.slice none 0 0, .slice none 0 0], plRow vp ps, boxRow bc 31 [vp, vt]]) (r := trRow vt tl) (post := more ++ [arcRow u k]) (r' := trRow vt (tl.set i x')) (by simpa [cpRows] using h1) hv (i * 6 + j) u rfl rfl rfl (by simp [trRow]) (flat_set trL_len tl i j x x' u hi hj hx).symm
  exact ⟨by simpa [cpRows] using h2.1, (h.below.trans (hb.mono hle)).trans (h2.2.below (fun q e => by subst e; exact hlb) (Nat.le_trans hle hb.size))⟩
end
end Go.Proofs.Ytpbbdnicafifpaa
