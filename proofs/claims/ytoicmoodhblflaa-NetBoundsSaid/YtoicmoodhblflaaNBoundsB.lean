/-
  Walks of the law NetBounds, where places, transitions or arcs are many: it returns true.
  Conditions: each theorem's own.
-/
import Derived.Test.YtoicmoodhblflaaNearL
import Derived.Test.YtoicmoodhblflaaNetWake
import Derived.Test.YtoicmoodhblflaaNetHand
import Derived.Test.YtoicmoodhblflaaConv2
import Derived.Deep.RegionLaw
namespace Go.Proofs.Ytoicmoodhblflaa
open Go.RowKit
set_option linter.unusedVariables false

abbrev tP : ByteArray := { data := #[112] }
abbrev tT : ByteArray := { data := #[116] }

/-- the net under way: its box, its rows -/
structure NB (w wr : World) (vp vt : Value) (ps : List Pl) (l : List (Tr × Value × Value × Value)) : Prop where
  all : AllOwn w.heap.size wr (boxRow (w.heap.size + 2) 30 [vp, vt] :: netRows vp vt ps l)
  below : Below w.heap.size w wr

def nbT : Tr × Value × Value × Value := (⟨tT, 0, 0, [], [], []⟩, .slice none 0 0, .slice none 0 0, .slice none 0 0)

theorem NB.start (w : World) : NB w (((w.alloc (.cells #[.string tP, .int .i64 0] 23)).alloc (.cells #[.string tT, .int .i64 0, .int .i64 0, .slice none 0 0, .slice none 0 0, .slice none 0 0] 27)).alloc (.cells #[.slice (some ⟨w.heap.size, 0, none⟩) 1 1, .slice (some ⟨w.heap.size + 1, 0, none⟩) 1 1] 30)) (.slice (some ⟨w.heap.size, 0, none⟩) 1 1) (.slice (some ⟨w.heap.size + 1, 0, none⟩) 1 1) [⟨tP, 0⟩] [nbT] := by
  have hs1 : (w.alloc (.cells #[.string tP, .int .i64 0] 23)).heap.size = w.heap.size + 1 := by simp
  have hs2 : ((w.alloc (.cells #[.string tP, .int .i64 0] 23)).alloc (.cells #[.string tT, .int .i64 0, .int .i64 0, .slice none 0 0, .slice none 0 0, .slice none 0 0] 27)).heap.size = w.heap.size + 2 := by simp
  have h1 := (AllOwn.nil w.heap.size w).add ((Below.refl _ w).alloc (Nat.le_refl _) _) (boxRow.new w.heap.size w 23 #[.string tP, .int .i64 0] (Nat.le_refl _)) (fun k e => by injection e with e; subst e; exact Nat.le_refl _)
  have h2 := h1.add ((Below.refl _ _).alloc (Nat.le_refl _) _) (boxRow.new w.heap.size _ 27 #[.string tT, .int .i64 0, .int .i64 0, .slice none 0 0, .slice none 0 0, .slice none 0 0] (by simp <;> omega)) (fun k e => by injection e with e; subst e; exact Nat.le_refl _)
  have h3 := h2.add ((Below.refl _ _).alloc (Nat.le_refl _) _) (boxRow.new w.heap.size _ 30 #[.slice (some ⟨w.heap.size, 0, none⟩) 1 1, .slice (some ⟨w.heap.size + 1, 0, none⟩) 1 1] (by simp <;> omega)) (fun k e => by injection e with e; subst e; exact Nat.le_refl _)
  have h4 := h3.add (Below.refl _ _) (r := arcRow (.slice none 0 0) []) (ownNil _ _ _ _) (fun k e => by cases e)
  have h5 := h4.add (Below.refl _ _) (r := arcRow (.slice none 0 0) []) (ownNil _ _ _ _) (fun k e => by cases e)
  have h6 := h5.add (Below.refl _ _) (r := arcRow (.slice none 0 0) []) (ownNil _ _ _ _) (fun k e => by cases e)
  rw [hs1, hs2] at h6
  refine ⟨?_, (((Below.refl _ w).alloc (Nat.le_refl _) _).alloc (by simp) _).alloc (by simp <;> omega) _⟩
  exact h6.perm (((List.Perm.swap (boxRow (w.heap.size + 2) 30 [.slice (some ⟨w.heap.size, 0, none⟩) 1 1, .slice (some ⟨w.heap.size + 1, 0, none⟩) 1 1]) (trRow (.slice (some ⟨w.heap.size + 1, 0, none⟩) 1 1) [nbT]) _).cons (plRow (.slice (some ⟨w.heap.size, 0, none⟩) 1 1) [⟨tP, 0⟩])).trans (List.Perm.swap _ _ _))

section
variable {w wr W w2 : World} {vp vt v2 : Value} {ps : List Pl} {l : List (Tr × Value × Value × Value)}

theorem NB.cells (h : NB w wr vp vt ps l) : wr.cell? ⟨w.heap.size + 2, 0, none⟩ = some vp ∧ wr.cell? ⟨w.heap.size + 2, 1, none⟩ = some vt ∧ w.heap.size + 2 < wr.heap.size := by
  have h1 := h.all.own (boxRow (w.heap.size + 2) 30 [vp, vt]) (by simp)
  exact ⟨boxRow.cell h1 rfl, boxRow.cell h1 rfl, (boxRow.lt h1).2⟩
theorem NB.go (h : NB w wr vp vt ps l) (hb : Below wr.heap.size wr W) : NB w W vp vt ps l := ⟨h.all.below hb, h.below.trans (hb.mono h.below.size)⟩
theorem NB.pl (h : NB w wr vp vt ps l) : OwnP w.heap.size wr vp ps := h.all.own (plRow vp ps) (by simp [netRows])
theorem NB.tr (h : NB w wr vp vt ps l) : OwnT w.heap.size wr vt l := h.all.own (trRow vt l) (by simp [netRows])
theorem NB.net (h : NB w wr vp vt ps l) : NetAt wr vp vt ⟨ps, l.map (·.1)⟩ := NetOwn.at_ ⟨l, rfl, h.all.sub (List.sublist_cons_self _ _)⟩

theorem NB.pushP {x : Pl} (h : NB w wr vp vt ps l) (hb : Below wr.heap.size wr W) (h2 : OwnP w.heap.size w2 v2 (ps ++ [x])) (hk : Kept (fun k => vp.ownBlock = some k) W w2) (hv : v2.ownBlock = vp.ownBlock ∨ v2.ownBlock = some (W.heap.size + 1)) :
    NB w (w2.setCell ⟨w.heap.size + 2, 0, none⟩ v2) v2 vt (ps ++ [x]) l ∧ w2.cell? ⟨w.heap.size + 2, 0, none⟩ = some vp ∧ w2.frozen? ⟨w.heap.size + 2, 0, none⟩ = false ∧ w.heap.size + 2 < w2.heap.size := by
  have h1 := h.go hb
  have a1 : AllOwn w.heap.size w2 ([boxRow (w.heap.size + 2) 30 [vp, vt]] ++ plRow v2 (ps ++ [x]) :: (trRow vt l :: l.flatMap arcRows)) :=
    AllOwn.swap (pre := [boxRow (w.heap.size + 2) 30 [vp, vt]]) (r := plRow vp ps) (post := trRow vt l :: l.flatMap arcRows) h1.all hk h2 (by
      rcases hv with e | e
      · exact .inl e
      · exact .inr ⟨_, e, by omega⟩)
  have a2 := AllOwn.store (pre := []) (b := w.heap.size + 2) (t := 30) (cs := [vp, vt]) (post := plRow v2 (ps ++ [x]) :: (trRow vt l :: l.flatMap arcRows)) a1 0 v2
  have hb2 := a1.own (boxRow (w.heap.size + 2) 30 [vp, vt]) (by simp)
  refine ⟨⟨a2.1, ?_⟩, boxRow.cell hb2 rfl, boxRow.froz hb2 0, (boxRow.lt hb2).2⟩
  have hk2 : Kept (fun k => w.heap.size ≤ k) W (w2.setCell ⟨w.heap.size + 2, 0, none⟩ v2) := (hk.mono (fun k _ e => (Row.lt (r := plRow vp ps) h1.pl e).1)).trans (a2.2.mono (fun k _ e => by omega))
  exact h1.below.trans (hk2.below (fun k hk => hk) h1.below.size)

theorem NB.pushT {t : Tr} (ht : t.inn = [] ∧ t.nt = [] ∧ t.out = []) (h : NB w wr vp vt ps l) (hb : Below wr.heap.size wr W) (h2 : OwnT w.heap.size w2 v2 (l ++ [(t, .slice none 0 0, .slice none 0 0, .slice none 0 0)])) (hk : Kept (fun k => vt.ownBlock = some k) W w2) (hv : v2.ownBlock = vt.ownBlock ∨ v2.ownBlock = some (W.heap.size + 1)) :
    NB w (w2.setCell ⟨w.heap.size + 2, 1, none⟩ v2) vp v2 ps (l ++ [(t, .slice none 0 0, .slice none 0 0, .slice none 0 0)]) ∧ w2.cell? ⟨w.heap.size + 2, 1, none⟩ = some vt ∧ w2.frozen? ⟨w.heap.size + 2, 1, none⟩ = false ∧ w.heap.size + 2 < w2.heap.size := by
  have h1 := h.go hb
  have a1 : AllOwn w.heap.size w2 ([boxRow (w.heap.size + 2) 30 [vp, vt], plRow vp ps] ++ trRow v2 (l ++ [(t, .slice none 0 0, .slice none 0 0, .slice none 0 0)]) :: l.flatMap arcRows) :=
    AllOwn.swap (pre := [boxRow (w.heap.size + 2) 30 [vp, vt], plRow vp ps]) (r := trRow vt l) (post := l.flatMap arcRows) h1.all hk h2 (by
      rcases hv with e | e
      · exact .inl e
      · exact .inr ⟨_, e, by omega⟩)
  have a2 := AllOwn.store (pre := []) (b := w.heap.size + 2) (t := 30) (cs := [vp, vt]) (post := plRow vp ps :: trRow v2 (l ++ [(t, .slice none 0 0, .slice none 0 0, .slice none 0 0)]) :: l.flatMap arcRows) a1 1 v2
  have hb2 := a1.own (boxRow (w.heap.size + 2) 30 [vp, vt]) (by simp)
  have a3 := ((a2.1.add (Below.refl _ _) (r := arcRow (.slice none 0 0) []) (ownNil _ _ _ _) (fun k e => by cases e)).add (Below.refl _ _) (r := arcRow (.slice none 0 0) []) (ownNil _ _ _ _) (fun k e => by cases e)).add (Below.refl _ _) (r := arcRow (.slice none 0 0) []) (ownNil _ _ _ _) (fun k e => by cases e)
  refine ⟨⟨?_, ?_⟩, boxRow.cell hb2 rfl, boxRow.froz hb2 1, (boxRow.lt hb2).2⟩
  · have e : boxRow (w.heap.size + 2) 30 [vp, v2] :: netRows vp v2 ps (l ++ [(t, .slice none 0 0, .slice none 0 0, .slice none 0 0)]) = ((([] ++ boxRow (w.heap.size + 2) 30 ([vp, vt].set 1 v2) :: (plRow vp ps :: trRow v2 (l ++ [(t, .slice none 0 0, .slice none 0 0, .slice none 0 0)]) :: l.flatMap arcRows)) ++ [arcRow (.slice none 0 0) []]) ++ [arcRow (.slice none 0 0) []]) ++ [arcRow (.slice none 0 0) []] := by
      simp [netRows, arcRows, ht.1, ht.2.1, ht.2.2]
    rw [e]
    exact a3
  · have hk2 : Kept (fun k => w.heap.size ≤ k) W (w2.setCell ⟨w.heap.size + 2, 1, none⟩ v2) := (hk.mono (fun k _ e => (Row.lt (r := trRow vt l) h1.tr e).1)).trans (a2.2.mono (fun k _ e => by omega))
    exact h1.below.trans (hk2.below (fun k hk => hk) h1.below.size)
end
end Go.Proofs.Ytoicmoodhblflaa
