/-
  The walk of the law PlainNone: a net without transitions, or with ones that never may, does nothing.
  Conditions: none beyond the theorems' own.
-/
import Derived.Test.YtpfdmmidomofdaaRunJ
import Derived.Test.YtpfdmmidomofdaaNoneM
import Derived.Test.YtpfdmmidomofdaaNearIn
namespace Go.Proofs.Ytpfdmmidomofdaa
open Go.RowKit
set_option linter.unusedVariables false

/-- the net's box and its places under way -/
structure InNo (w wr : World) (vp : Value) (ps : List Pl) : Prop where
  all : AllOwn w.heap.size wr [boxRow w.heap.size 31 [vp, .slice none 0 0], plRow vp ps]
  below : Below w.heap.size w wr
theorem InNo.start (w : World) : InNo w (w.alloc (.cells #[.slice none 0 0, .slice none 0 0] 31)) (.slice none 0 0) [] := by
  have h1 := (AllOwn.nil w.heap.size w).add ((Below.refl _ w).alloc (Nat.le_refl _) _) (boxRow.new w.heap.size w 31 #[.slice none 0 0, .slice none 0 0] (Nat.le_refl _)) (fun k e => by injection e with e; subst e; exact Nat.le_refl _)
  have h2 := h1.add (Below.refl _ _) (r := plRow (.slice none 0 0) []) (ownNil _ _ _ _) (fun k e => by cases e)
  exact ⟨h2, (Below.refl _ w).alloc (Nat.le_refl _) _⟩
section
variable {w wr : World} {vp : Value} {ps : List Pl}
theorem InNo.bn (h : InNo w wr vp ps) : (boxRow w.heap.size 31 [vp, .slice none 0 0]).own w.heap.size wr := h.all.own _ (by simp)
theorem InNo.n0 (h : InNo w wr vp ps) : wr.cell? ⟨w.heap.size, 0, none⟩ = some vp := boxRow.cell h.bn rfl
theorem InNo.n1 (h : InNo w wr vp ps) : wr.cell? ⟨w.heap.size, 1, none⟩ = some (.slice none 0 0) := boxRow.cell h.bn rfl
theorem InNo.sz (h : InNo w wr vp ps) : w.heap.size < wr.heap.size := (boxRow.lt h.bn).2
theorem InNo.pl (h : InNo w wr vp ps) : OwnP w.heap.size wr vp ps := h.all.own (plRow vp ps) (by simp)
theorem InNo.go {w' : World} (h : InNo w wr vp ps) (hb : Below wr.heap.size wr w') : InNo w w' vp ps := ⟨h.all.below hb, h.below.trans (hb.mono h.below.size)⟩
/-- a place put at the end, and stored into the net -/
theorem InNo.pushP {W w2 : World} {v2 : Value} {x : Pl} (h : InNo w wr vp ps) (hb : Below wr.heap.size wr W) (h2 : OwnP w.heap.size w2 v2 (ps ++ [x])) (hk : Kept (fun k => vp.ownBlock = some k) W w2) (hv : v2.ownBlock = vp.ownBlock ∨ v2.ownBlock = some (W.heap.size + 1)) :
    InNo w (w2.setCell ⟨w.heap.size, 0, none⟩ v2) v2 (ps ++ [x]) ∧ w2.cell? ⟨w.heap.size, 0, none⟩ = some vp ∧ w2.frozen? ⟨w.heap.size, 0, none⟩ = false ∧ w.heap.size < w2.heap.size := by
  have h1 := (h.go hb)
  have a1 : AllOwn w.heap.size w2 ([boxRow w.heap.size 31 [vp, .slice none 0 0]] ++ plRow v2 (ps ++ [x]) :: []) :=
    AllOwn.swap (pre := [boxRow w.heap.size 31 [vp, .slice none 0 0]]) (r := plRow vp ps) (post := []) h1.all hk h2 (by
      rcases hv with e | e
      · exact .inl e
      · exact .inr ⟨_, e, by omega⟩)
  have a2 := AllOwn.store (pre := []) (b := w.heap.size) (t := 31) (cs := [vp, .slice none 0 0]) (post := [plRow v2 (ps ++ [x])]) a1 0 v2
  have hb2 := a1.own (boxRow w.heap.size 31 [vp, .slice none 0 0]) (by simp)
  refine ⟨⟨a2.1, ?_⟩, boxRow.cell hb2 rfl, boxRow.froz hb2 0, (boxRow.lt hb2).2⟩
  have hk2 : Kept (fun k => w.heap.size ≤ k) W (w2.setCell ⟨w.heap.size, 0, none⟩ v2) := (hk.mono (fun k _ e => (Row.lt (r := plRow vp ps) h1.pl e).1)).trans (a2.2.mono (fun k _ e => by omega))
  exact h1.below.trans (hk2.below (fun k hk => hk) h1.below.size)
end

set_option maxRecDepth 100000 in
set_option maxHeartbeats 4000000 in
theorem none_big {w : World} {aT : Option Addr} {nT cT : Nat} {hz : Int} {nv : Bool} (h : 20 < nT) :
    Calls Try.prog 5 #[.slice aT nT cT, .int .i64 hz, .bool nv] w fun e w' => e = .returned (.bool true) ∧ Below w.heap.size w w' := by
  go_enter Try.func5, Try.ntmps5
  go_wp2_with fail
  refine (awake9 _).mono ?_
  rintro e w1 ⟨rfl, hb⟩
  have Hb := Lib.hid hb
  clear hb
  have h20 : ((20 : Int) < (nT : Int)) := by omega
  go_wp2_with fail
  refine (awake9 _).mono ?_
  rintro e w2 ⟨rfl, hb2⟩
  have Hb2 := Lib.hid (Hb.out.trans (hb2.mono Hb.out.size))
  clear hb2
  go_wp2
  go_ret
  exact ⟨rfl, Hb2.out⟩
end Go.Proofs.Ytpfdmmidomofdaa
