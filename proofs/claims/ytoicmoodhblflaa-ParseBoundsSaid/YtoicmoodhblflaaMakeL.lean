/-
  What the document's own Make has at hand, step by step.
  Conditions: none beyond each theorem's own.
-/
import Derived.Test.YtoicmoodhblflaaMakeA
import Derived.Deep.CutRange
import Derived.Deep.RegionHeld3
import Derived.StillTailTactics
namespace Go.Proofs.Ytoicmoodhblflaa
open Go.RowKit
set_option linter.unusedVariables false

theorem own_form3 {w : World} {B e n size : Nat} {v : Value} {xs : List Value} (h : w.ownsRow B e size v n xs) : ∃ a m c, v = .slice a m c := by
  obtain ⟨a, c, h⟩ := own_form h; exact ⟨a, n, c, h⟩

section
variable {w wr : World} {D0 D1 vp vt : Value} {ps : List Pl} {l : List (Tr × Value × Value × Value)} {more : List Row}

theorem InMk.d0 (h : InMk w wr D0 D1 vp vt ps l more) : wr.cell? ⟨w.heap.size, 0, none⟩ = some D0 := boxRow.cell (h.all.own (boxRow w.heap.size 40 [D0, D1]) (by simp)) rfl
theorem InMk.d1 (h : InMk w wr D0 D1 vp vt ps l more) : wr.cell? ⟨w.heap.size, 1, none⟩ = some D1 := boxRow.cell (h.all.own (boxRow w.heap.size 40 [D0, D1]) (by simp)) rfl
theorem InMk.bn (h : InMk w wr D0 D1 vp vt ps l more) : (boxRow (w.heap.size + 2) 30 [vp, vt]).own w.heap.size wr := h.all.own _ (by simp)
theorem InMk.n0 (h : InMk w wr D0 D1 vp vt ps l more) : wr.cell? ⟨w.heap.size + 2, 0, none⟩ = some vp := boxRow.cell h.bn rfl
theorem InMk.n1 (h : InMk w wr D0 D1 vp vt ps l more) : wr.cell? ⟨w.heap.size + 2, 1, none⟩ = some vt := boxRow.cell h.bn rfl
theorem InMk.sz (h : InMk w wr D0 D1 vp vt ps l more) : w.heap.size + 2 < wr.heap.size := (boxRow.lt h.bn).2
theorem InMk.pl (h : InMk w wr D0 D1 vp vt ps l more) : OwnP w.heap.size wr vp ps := h.all.own (plRow vp ps) (by simp [netRows])
theorem InMk.go {w' : World} (h : InMk w wr D0 D1 vp vt ps l more) (hb : Below wr.heap.size wr w') : InMk w w' D0 D1 vp vt ps l more := ⟨h.all.below hb, h.below.trans (hb.mono h.below.size)⟩

/-- a place put at the end, and stored into the net -/
theorem InMk.pushP {W w2 : World} {v2 : Value} {x : Pl} (h : InMk w wr D0 D1 vp vt ps l more) (hb : Below wr.heap.size wr W) (h2 : OwnP w.heap.size w2 v2 (ps ++ [x])) (hk : Kept (fun k => vp.ownBlock = some k) W w2) (hv : v2.ownBlock = vp.ownBlock ∨ v2.ownBlock = some (W.heap.size + 1)) :
    InMk w (w2.setCell ⟨w.heap.size + 2, 0, none⟩ v2) D0 D1 v2 vt (ps ++ [x]) l more ∧ w2.cell? ⟨w.heap.size + 2, 0, none⟩ = some vp ∧ w2.frozen? ⟨w.heap.size + 2, 0, none⟩ = false ∧ w.heap.size + 2 < w2.heap.size := by
  have h1 := (h.go hb)
  have a1 : AllOwn w.heap.size w2 ([boxRow w.heap.size 40 [D0, D1], boxRow (w.heap.size + 1) 30 [.slice none 0 0, .slice none 0 0], boxRow (w.heap.size + 2) 30 [vp, vt]] ++ plRow v2 (ps ++ [x]) :: (trRow vt l :: l.flatMap arcRows ++ more)) :=
    AllOwn.swap (pre := [boxRow w.heap.size 40 [D0, D1], boxRow (w.heap.size + 1) 30 [.slice none 0 0, .slice none 0 0], boxRow (w.heap.size + 2) 30 [vp, vt]]) (r := plRow vp ps) (post := trRow vt l :: l.flatMap arcRows ++ more) h1.all hk h2 (by
      rcases hv with e | e
      · exact .inl e
      · exact .inr ⟨_, e, by omega⟩)
  have a2 := AllOwn.store (pre := [boxRow w.heap.size 40 [D0, D1], boxRow (w.heap.size + 1) 30 [.slice none 0 0, .slice none 0 0]]) (b := w.heap.size + 2) (t := 30) (cs := [vp, vt]) (post := plRow v2 (ps ++ [x]) :: (trRow vt l :: l.flatMap arcRows ++ more)) a1 0 v2
  have hb2 := a1.own (boxRow (w.heap.size + 2) 30 [vp, vt]) (by simp)
  refine ⟨⟨a2.1, ?_⟩, boxRow.cell hb2 rfl, boxRow.froz hb2 0, (boxRow.lt hb2).2⟩
  have hk2 : Kept (fun k => w.heap.size ≤ k) W (w2.setCell ⟨w.heap.size + 2, 0, none⟩ v2) := (hk.mono (fun k _ e => (Row.lt (r := plRow vp ps) h1.pl e).1)).trans (a2.2.mono (fun k _ e => by omega))
  exact h1.below.trans (hk2.below (fun k hk => hk) h1.below.size)
end


/-- a transition under way: its numbers' box, its own, its three lists -/
def tMore (bx bt : Nat) (x : Ac) (nm : ByteArray) (d p : Int) (v1 v2 v3 : Value) (l1 l2 l3 : List (Int × Int)) : List Row :=
  [boxRow bx 66 (acL x), boxRow bt 27 [.string nm, .int .i64 d, .int .i64 p, v1, v2, v3], arcRow v1 l1, arcRow v2 l2, arcRow v3 l3]

/-- what the cells of both boxes hold -/
structure TCells (wr : World) (bx bt : Nat) (x : Ac) (nm : ByteArray) (d p : Int) (v1 v2 v3 : Value) : Prop where
  x0 : wr.cell? ⟨bx, 0, none⟩ = some (.int .u8 (x.d : Int))
  x1 : wr.cell? ⟨bx, 1, none⟩ = some (.int .u8 (x.p : Int))
  x2 : wr.cell? ⟨bx, 2, none⟩ = some (.int .u8 (x.i : Int))
  x3 : wr.cell? ⟨bx, 3, none⟩ = some (.int .u8 (x.j : Int))
  x4 : wr.cell? ⟨bx, 4, none⟩ = some (.int .u8 (x.n : Int))
  x5 : wr.cell? ⟨bx, 5, none⟩ = some (.int .u8 (x.o : Int))
  x6 : wr.cell? ⟨bx, 6, none⟩ = some (.int .u8 (x.q : Int))
  t0 : wr.cell? ⟨bt, 0, none⟩ = some (.string nm)
  t1 : wr.cell? ⟨bt, 1, none⟩ = some (.int .i64 d)
  t2 : wr.cell? ⟨bt, 2, none⟩ = some (.int .i64 p)
  t3 : wr.cell? ⟨bt, 3, none⟩ = some v1
  t4 : wr.cell? ⟨bt, 4, none⟩ = some v2
  t5 : wr.cell? ⟨bt, 5, none⟩ = some v3
  fz : ∀ j, wr.frozen? ⟨bt, j, none⟩ = false
  bxl : bx < wr.heap.size
  btl : bt < wr.heap.size

section
variable {w wr : World} {D0 D1 vp vt : Value} {ps : List Pl} {l : List (Tr × Value × Value × Value)} {bx bt : Nat} {x : Ac} {nm : ByteArray} {d p : Int} {v1 v2 v3 : Value} {l1 l2 l3 : List (Int × Int)}

theorem InMk.cells (h : InMk w wr D0 D1 vp vt ps l (tMore bx bt x nm d p v1 v2 v3 l1 l2 l3)) : TCells wr bx bt x nm d p v1 v2 v3 := by
  have h1 := h.all.own (boxRow bx 66 (acL x)) (by simp [tMore])
  have h2 := h.all.own (boxRow bt 27 [.string nm, .int .i64 d, .int .i64 p, v1, v2, v3]) (by simp [tMore])
  exact ⟨boxRow.cell h1 rfl, boxRow.cell h1 rfl, boxRow.cell h1 rfl, boxRow.cell h1 rfl, boxRow.cell h1 rfl, boxRow.cell h1 rfl, boxRow.cell h1 rfl, boxRow.cell h2 rfl, boxRow.cell h2 rfl, boxRow.cell h2 rfl, boxRow.cell h2 rfl, boxRow.cell h2 rfl, boxRow.cell h2 rfl, boxRow.froz h2, (boxRow.lt h1).2, (boxRow.lt h2).2⟩

theorem InMk.a1 (h : InMk w wr D0 D1 vp vt ps l (tMore bx bt x nm d p v1 v2 v3 l1 l2 l3)) : OwnA w.heap.size wr v1 l1 := h.all.own (arcRow v1 l1) (by simp [tMore])
theorem InMk.a2 (h : InMk w wr D0 D1 vp vt ps l (tMore bx bt x nm d p v1 v2 v3 l1 l2 l3)) : OwnA w.heap.size wr v2 l2 := h.all.own (arcRow v2 l2) (by simp [tMore])
theorem InMk.a3 (h : InMk w wr D0 D1 vp vt ps l (tMore bx bt x nm d p v1 v2 v3 l1 l2 l3)) : OwnA w.heap.size wr v3 l3 := h.all.own (arcRow v3 l3) (by simp [tMore])

/-- a cell of the transition's box is stored -/
theorem InMk.setT {j : Nat} {u : Value} {r1 r2 r3 : Row} {cs : List Value} {L : List Row} (h : AllOwn w.heap.size wr (L ++ [boxRow bx 66 (acL x), boxRow bt 27 cs, r1, r2, r3])) (hb : Below w.heap.size w wr) :
    AllOwn w.heap.size (wr.setCell ⟨bt, j, none⟩ u) (L ++ [boxRow bx 66 (acL x), boxRow bt 27 (cs.set j u), r1, r2, r3]) ∧ Below w.heap.size w (wr.setCell ⟨bt, j, none⟩ u) := by
  have e : ∀ c : List Value, L ++ [boxRow bx 66 (acL x), boxRow bt 27 c, r1, r2, r3] = (L ++ [boxRow bx 66 (acL x)]) ++ boxRow bt 27 c :: [r1, r2, r3] := fun c => by simp
  rw [e] at h
  have hbt := (boxRow.lt (h.own (boxRow bt 27 cs) (by simp))).1
  obtain ⟨h1, h2⟩ := AllOwn.store h j u
  rw [e]
  exact ⟨h1, hb.trans (h2.below (fun k hk => by omega) hb.size)⟩

theorem InMk.put1 {w2 : World} {u : Value} {l' : List (Int × Int)} (h : InMk w wr D0 D1 vp vt ps l (tMore bx bt x nm d p v1 v2 v3 l1 l2 l3)) (hp : PutOut w.heap.size wr w2 v1 u l') :
    InMk w (w2.setCell ⟨bt, 3, none⟩ u) D0 D1 vp vt ps l (tMore bx bt x nm d p u v2 v3 l' l2 l3) ∧ w2.cell? ⟨bt, 3, none⟩ = some v1 ∧ w2.frozen? ⟨bt, 3, none⟩ = false ∧ bt < w2.heap.size := by
  have e : ∀ r : Row, (boxRow w.heap.size 40 [D0, D1] :: boxRow (w.heap.size + 1) 30 [.slice none 0 0, .slice none 0 0] :: boxRow (w.heap.size + 2) 30 [vp, vt] :: (netRows vp vt ps l ++ [boxRow bx 66 (acL x), boxRow bt 27 [.string nm, .int .i64 d, .int .i64 p, v1, v2, v3], r, arcRow v2 l2, arcRow v3 l3])) =
      (boxRow w.heap.size 40 [D0, D1] :: boxRow (w.heap.size + 1) 30 [.slice none 0 0, .slice none 0 0] :: boxRow (w.heap.size + 2) 30 [vp, vt] :: (netRows vp vt ps l ++ [boxRow bx 66 (acL x), boxRow bt 27 [.string nm, .int .i64 d, .int .i64 p, v1, v2, v3]])) ++ r :: [arcRow v2 l2, arcRow v3 l3] := fun r => by simp
  have ha := h.all
  unfold tMore at ha
  rw [e] at ha
  have h1 := AllOwn.swap ha hp.kept (r' := arcRow u l') hp.own hp.fresh
  have hbt := h1.own (boxRow bt 27 [.string nm, .int .i64 d, .int .i64 p, v1, v2, v3]) (by simp)
  rw [← e] at h1
  have hbel : Below w.heap.size w w2 := h.below.trans (hp.kept.below (fun k hk => (Row.lt (r := arcRow v1 l1) h.a1 hk).1) h.below.size)
  have h2 := InMk.setT (L := boxRow w.heap.size 40 [D0, D1] :: boxRow (w.heap.size + 1) 30 [.slice none 0 0, .slice none 0 0] :: boxRow (w.heap.size + 2) 30 [vp, vt] :: netRows vp vt ps l) (j := 3) (u := u) h1 hbel
  exact ⟨⟨h2.1, h2.2⟩, boxRow.cell hbt rfl, boxRow.froz hbt 3, (boxRow.lt hbt).2⟩

theorem InMk.put2 {w2 : World} {u : Value} {l' : List (Int × Int)} (h : InMk w wr D0 D1 vp vt ps l (tMore bx bt x nm d p v1 v2 v3 l1 l2 l3)) (hp : PutOut w.heap.size wr w2 v2 u l') :
    InMk w (w2.setCell ⟨bt, 4, none⟩ u) D0 D1 vp vt ps l (tMore bx bt x nm d p v1 u v3 l1 l' l3) ∧ w2.cell? ⟨bt, 4, none⟩ = some v2 ∧ w2.frozen? ⟨bt, 4, none⟩ = false ∧ bt < w2.heap.size := by
  have e : ∀ r : Row, (boxRow w.heap.size 40 [D0, D1] :: boxRow (w.heap.size + 1) 30 [.slice none 0 0, .slice none 0 0] :: boxRow (w.heap.size + 2) 30 [vp, vt] :: (netRows vp vt ps l ++ [boxRow bx 66 (acL x), boxRow bt 27 [.string nm, .int .i64 d, .int .i64 p, v1, v2, v3], arcRow v1 l1, r, arcRow v3 l3])) =
      (boxRow w.heap.size 40 [D0, D1] :: boxRow (w.heap.size + 1) 30 [.slice none 0 0, .slice none 0 0] :: boxRow (w.heap.size + 2) 30 [vp, vt] :: (netRows vp vt ps l ++ [boxRow bx 66 (acL x), boxRow bt 27 [.string nm, .int .i64 d, .int .i64 p, v1, v2, v3], arcRow v1 l1])) ++ r :: [arcRow v3 l3] := fun r => by simp
  have ha := h.all
  unfold tMore at ha
  rw [e] at ha
  have h1 := AllOwn.swap ha hp.kept (r' := arcRow u l') hp.own hp.fresh
  have hbt := h1.own (boxRow bt 27 [.string nm, .int .i64 d, .int .i64 p, v1, v2, v3]) (by simp)
  rw [← e] at h1
  have hbel : Below w.heap.size w w2 := h.below.trans (hp.kept.below (fun k hk => (Row.lt (r := arcRow v2 l2) h.a2 hk).1) h.below.size)
  have h2 := InMk.setT (L := boxRow w.heap.size 40 [D0, D1] :: boxRow (w.heap.size + 1) 30 [.slice none 0 0, .slice none 0 0] :: boxRow (w.heap.size + 2) 30 [vp, vt] :: netRows vp vt ps l) (j := 4) (u := u) h1 hbel
  exact ⟨⟨h2.1, h2.2⟩, boxRow.cell hbt rfl, boxRow.froz hbt 4, (boxRow.lt hbt).2⟩

theorem InMk.put3 {w2 : World} {u : Value} {l' : List (Int × Int)} (h : InMk w wr D0 D1 vp vt ps l (tMore bx bt x nm d p v1 v2 v3 l1 l2 l3)) (hp : PutOut w.heap.size wr w2 v3 u l') :
    InMk w (w2.setCell ⟨bt, 5, none⟩ u) D0 D1 vp vt ps l (tMore bx bt x nm d p v1 v2 u l1 l2 l') ∧ w2.cell? ⟨bt, 5, none⟩ = some v3 ∧ w2.frozen? ⟨bt, 5, none⟩ = false ∧ bt < w2.heap.size := by
  have e : ∀ r : Row, (boxRow w.heap.size 40 [D0, D1] :: boxRow (w.heap.size + 1) 30 [.slice none 0 0, .slice none 0 0] :: boxRow (w.heap.size + 2) 30 [vp, vt] :: (netRows vp vt ps l ++ [boxRow bx 66 (acL x), boxRow bt 27 [.string nm, .int .i64 d, .int .i64 p, v1, v2, v3], arcRow v1 l1, arcRow v2 l2, r])) =
      (boxRow w.heap.size 40 [D0, D1] :: boxRow (w.heap.size + 1) 30 [.slice none 0 0, .slice none 0 0] :: boxRow (w.heap.size + 2) 30 [vp, vt] :: (netRows vp vt ps l ++ [boxRow bx 66 (acL x), boxRow bt 27 [.string nm, .int .i64 d, .int .i64 p, v1, v2, v3], arcRow v1 l1, arcRow v2 l2])) ++ r :: [] := fun r => by simp
  have ha := h.all
  unfold tMore at ha
  rw [e] at ha
  have h1 := AllOwn.swap ha hp.kept (r' := arcRow u l') hp.own hp.fresh
  have hbt := h1.own (boxRow bt 27 [.string nm, .int .i64 d, .int .i64 p, v1, v2, v3]) (by simp)
  rw [← e] at h1
  have hbel : Below w.heap.size w w2 := h.below.trans (hp.kept.below (fun k hk => (Row.lt (r := arcRow v3 l3) h.a3 hk).1) h.below.size)
  have h2 := InMk.setT (L := boxRow w.heap.size 40 [D0, D1] :: boxRow (w.heap.size + 1) 30 [.slice none 0 0, .slice none 0 0] :: boxRow (w.heap.size + 2) 30 [vp, vt] :: netRows vp vt ps l) (j := 5) (u := u) h1 hbel
  exact ⟨⟨h2.1, h2.2⟩, boxRow.cell hbt rfl, boxRow.froz hbt 5, (boxRow.lt hbt).2⟩

theorem InMk.delay (h : InMk w wr D0 D1 vp vt ps l (tMore bx bt x nm d p v1 v2 v3 l1 l2 l3)) (d' : Int) : InMk w (wr.setCell ⟨bt, 1, none⟩ (.int .i64 d')) D0 D1 vp vt ps l (tMore bx bt x nm d' p v1 v2 v3 l1 l2 l3) := by
  have h2 := InMk.setT (L := boxRow w.heap.size 40 [D0, D1] :: boxRow (w.heap.size + 1) 30 [.slice none 0 0, .slice none 0 0] :: boxRow (w.heap.size + 2) 30 [vp, vt] :: netRows vp vt ps l) (j := 1) (u := .int .i64 d') h.all h.below
  exact ⟨h2.1, h2.2⟩

/-- a transition begins -/
theorem InMk.begin {o : Obj} (h : InMk w wr D0 D1 vp vt ps l []) (x : Ac) (nm : ByteArray) (d p : Int) :
    InMk w (((wr.alloc (.cells #[.int .u8 (x.d : Int), .int .u8 (x.p : Int), .int .u8 (x.i : Int), .int .u8 (x.j : Int), .int .u8 (x.n : Int), .int .u8 (x.o : Int), .int .u8 (x.q : Int)] 66)).alloc o).alloc (.cells #[.string nm, .int .i64 d, .int .i64 p, .slice none 0 0, .slice none 0 0, .slice none 0 0] 27)) D0 D1 vp vt ps l
      (tMore wr.heap.size (wr.heap.size + 2) x nm d p (.slice none 0 0) (.slice none 0 0) (.slice none 0 0) [] [] []) := by
  have hB := h.below.size
  have h1 := h.all.add ((Below.refl _ wr).alloc (Nat.le_refl _) _) (boxRow.new w.heap.size wr 66 #[.int .u8 (x.d : Int), .int .u8 (x.p : Int), .int .u8 (x.i : Int), .int .u8 (x.j : Int), .int .u8 (x.n : Int), .int .u8 (x.o : Int), .int .u8 (x.q : Int)] hB) (fun k e => by injection e with e; subst e; exact Nat.le_refl _)
  have h2 := (h1.alloc o).add ((Below.refl _ _).alloc (Nat.le_refl _) _) (boxRow.new w.heap.size _ 27 #[.string nm, .int .i64 d, .int .i64 p, .slice none 0 0, .slice none 0 0, .slice none 0 0] (by simp; omega)) (fun k e => by injection e with e; subst e; exact Nat.le_refl _)
  have h3 := ((h2.add (Below.refl _ _) (r := arcRow (.slice none 0 0) []) (ownNil _ _ _ _) (fun k e => by cases e)).add (Below.refl _ _) (r := arcRow (.slice none 0 0) []) (ownNil _ _ _ _) (fun k e => by cases e)).add (Below.refl _ _) (r := arcRow (.slice none 0 0) []) (ownNil _ _ _ _) (fun k e => by cases e)
  refine ⟨?_, ((h.below.alloc hB _).alloc (by simp; omega) _).alloc (by simp; omega) _⟩
  have hs : ((wr.alloc (.cells #[.int .u8 (x.d : Int), .int .u8 (x.p : Int), .int .u8 (x.i : Int), .int .u8 (x.j : Int), .int .u8 (x.n : Int), .int .u8 (x.o : Int), .int .u8 (x.q : Int)] 66)).alloc o).heap.size = wr.heap.size + 2 := by simp
  rw [hs] at h3
  simp only [List.append_nil, List.cons_append, List.append_assoc, List.nil_append] at h3
  exact h3
end


section
variable {w wr : World} {D0 D1 vp vt : Value} {ps : List Pl} {l : List (Tr × Value × Value × Value)} {more : List Row}
theorem InMk.tr (h : InMk w wr D0 D1 vp vt ps l more) : OwnT w.heap.size wr vt l := h.all.own (trRow vt l) (by simp [netRows])
theorem InMk.br (h : InMk w wr D0 D1 vp vt ps l more) : (boxRow (w.heap.size + 1) 30 [.slice none 0 0, .slice none 0 0]).own w.heap.size wr := h.all.own _ (by simp)
theorem InMk.r0 (h : InMk w wr D0 D1 vp vt ps l more) : wr.cell? ⟨w.heap.size + 1, 0, none⟩ = some (.slice none 0 0) := boxRow.cell h.br rfl
theorem InMk.r1 (h : InMk w wr D0 D1 vp vt ps l more) : wr.cell? ⟨w.heap.size + 1, 1, none⟩ = some (.slice none 0 0) := boxRow.cell h.br rfl
theorem InMk.rf (h : InMk w wr D0 D1 vp vt ps l more) (j : Nat) : wr.frozen? ⟨w.heap.size + 1, j, none⟩ = false := boxRow.froz h.br j

theorem InMk.finish (h : InMk w wr D0 D1 vp vt ps l []) : AllOwn w.heap.size ((wr.setCell ⟨w.heap.size + 1, 0, none⟩ vp).setCell ⟨w.heap.size + 1, 1, none⟩ vt) (netRows vp vt ps l) ∧ Below w.heap.size w ((wr.setCell ⟨w.heap.size + 1, 0, none⟩ vp).setCell ⟨w.heap.size + 1, 1, none⟩ vt) ∧
    ((wr.setCell ⟨w.heap.size + 1, 0, none⟩ vp).setCell ⟨w.heap.size + 1, 1, none⟩ vt).cell? ⟨w.heap.size + 1, 0, none⟩ = some vp ∧ ((wr.setCell ⟨w.heap.size + 1, 0, none⟩ vp).setCell ⟨w.heap.size + 1, 1, none⟩ vt).cell? ⟨w.heap.size + 1, 1, none⟩ = some vt := by
  have h1 := AllOwn.store (pre := [boxRow w.heap.size 40 [D0, D1]]) (b := w.heap.size + 1) (t := 30) (cs := [.slice none 0 0, .slice none 0 0]) (post := boxRow (w.heap.size + 2) 30 [vp, vt] :: (netRows vp vt ps l ++ [])) h.all 0 vp
  have h2 := AllOwn.store (pre := [boxRow w.heap.size 40 [D0, D1]]) (b := w.heap.size + 1) (t := 30) (post := boxRow (w.heap.size + 2) 30 [vp, vt] :: (netRows vp vt ps l ++ [])) h1.1 1 vt
  have hb := h2.1.own (boxRow (w.heap.size + 1) 30 [vp, vt]) (List.mem_append_right _ (List.mem_cons_self ..))
  refine ⟨h2.1.sub ?_, h.below.trans ((h1.2.trans h2.2).below (fun k e => by omega) h.below.size), boxRow.cell hb rfl, boxRow.cell hb rfl⟩
  rw [List.append_nil]
  exact ((List.sublist_cons_self _ _).trans (List.sublist_cons_self _ _)).trans (List.sublist_cons_self _ _)
end

section
variable {w wr : World} {D0 D1 vp vt : Value} {ps : List Pl} {l : List (Tr × Value × Value × Value)} {bx bt : Nat} {x : Ac} {nm : ByteArray} {d p : Int} {v1 v2 v3 : Value} {l1 l2 l3 : List (Int × Int)}

/-- the transition put at the end, and stored into the net -/
theorem InMk.pushT {w2 : World} {u : Value} (h : InMk w wr D0 D1 vp vt ps l (tMore bx bt x nm d p v1 v2 v3 l1 l2 l3)) (h2 : OwnT w.heap.size w2 u (l ++ [(⟨nm, d, p, l1, l2, l3⟩, v1, v2, v3)])) (hk : Kept (fun k => vt.ownBlock = some k) wr w2) (hv : u.ownBlock = vt.ownBlock ∨ u.ownBlock = some (wr.heap.size + 1)) :
    InMk w (w2.setCell ⟨w.heap.size + 2, 1, none⟩ u) D0 D1 vp u ps (l ++ [(⟨nm, d, p, l1, l2, l3⟩, v1, v2, v3)]) [] ∧ w2.cell? ⟨w.heap.size + 2, 1, none⟩ = some vt ∧ w2.frozen? ⟨w.heap.size + 2, 1, none⟩ = false ∧ w.heap.size + 2 < w2.heap.size := by
  have a1 : AllOwn w.heap.size w2 ([boxRow w.heap.size 40 [D0, D1], boxRow (w.heap.size + 1) 30 [.slice none 0 0, .slice none 0 0], boxRow (w.heap.size + 2) 30 [vp, vt], plRow vp ps] ++ trRow u (l ++ [(⟨nm, d, p, l1, l2, l3⟩, v1, v2, v3)]) :: (l.flatMap arcRows ++ tMore bx bt x nm d p v1 v2 v3 l1 l2 l3)) :=
    AllOwn.swap (pre := [boxRow w.heap.size 40 [D0, D1], boxRow (w.heap.size + 1) 30 [.slice none 0 0, .slice none 0 0], boxRow (w.heap.size + 2) 30 [vp, vt], plRow vp ps]) (r := trRow vt l) (post := l.flatMap arcRows ++ tMore bx bt x nm d p v1 v2 v3 l1 l2 l3) h.all hk h2 (by
      rcases hv with e | e
      · exact .inl e
      · exact .inr ⟨_, e, by omega⟩)
  have a2 := AllOwn.store (pre := [boxRow w.heap.size 40 [D0, D1], boxRow (w.heap.size + 1) 30 [.slice none 0 0, .slice none 0 0]]) (b := w.heap.size + 2) (t := 30) (cs := [vp, vt]) (post := plRow vp ps :: trRow u (l ++ [(⟨nm, d, p, l1, l2, l3⟩, v1, v2, v3)]) :: (l.flatMap arcRows ++ tMore bx bt x nm d p v1 v2 v3 l1 l2 l3)) a1 1 u
  have hb2 := a1.own (boxRow (w.heap.size + 2) 30 [vp, vt]) (by simp)
  have hk2 : Kept (fun k => w.heap.size ≤ k) wr (w2.setCell ⟨w.heap.size + 2, 1, none⟩ u) := (hk.mono (fun k _ e => (Row.lt (r := trRow vt l) h.tr e).1)).trans (a2.2.mono (fun k _ e => by omega))
  refine ⟨⟨a2.1.sub ?_, h.below.trans (hk2.below (fun k hk => hk) h.below.size)⟩, boxRow.cell hb2 rfl, boxRow.froz hb2 1, (boxRow.lt hb2).2⟩
  have e : netRows vp u ps (l ++ [(⟨nm, d, p, l1, l2, l3⟩, v1, v2, v3)]) ++ [] = plRow vp ps :: trRow u (l ++ [(⟨nm, d, p, l1, l2, l3⟩, v1, v2, v3)]) :: (l.flatMap arcRows ++ [arcRow v1 l1, arcRow v2 l2, arcRow v3 l3]) := by simp [netRows, arcRows]
  rw [e]
  have hs : [arcRow v1 l1, arcRow v2 l2, arcRow v3 l3].Sublist (tMore bx bt x nm d p v1 v2 v3 l1 l2 l3) := List.sublist_append_right [_, _] _
  exact ((((hs.append_left (l.flatMap arcRows)).cons_cons _).cons_cons _).cons_cons _).cons_cons _ |>.cons_cons _
end

end Go.Proofs.Ytoicmoodhblflaa
