/-
  What New of the engine comes to: an engine that has come to what a run has at its beginning.
  Conditions: none beyond each theorem's own.
-/
import Derived.Test.YtpbbdnicafifpaaEgS0
namespace Go.Proofs.Ytpbbdnicafifpaa
open Go.RowKit
set_option linter.unusedVariables false

theorem AllOwn.insL {B : Nat} {w w' : World} {pre post rs' : List Row} (h : AllOwn B w (pre ++ post)) (hb : Below w.heap.size w w') (h2 : AllOwn w.heap.size w' rs') (hB : B ≤ w.heap.size) : AllOwn B w' (pre ++ (rs' ++ post)) := by
  have h3 := h.adds hb h2 hB
  refine h3.perm ?_
  rw [← List.append_assoc, ← List.append_assoc]
  exact List.perm_append_comm.append_right post
theorem AllOwn.one {B : Nat} {w : World} {r : Row} (h : r.own B w) : AllOwn B w [r] := ⟨fun x hx => by rw [List.mem_singleton] at hx; subst hx; exact h, List.pairwise_singleton _ _⟩

/-- what the copy of the net, and of the first tokens, come to so far -/
def npRows (n : Nt) (np : Nat) (o1 : Option (Value × Value × List (Tr × Value × Value × Value))) (o2 : Option Nat) : List Row :=
  (match o2 with | some b => [intRow (.slice (some ⟨b, 0, none⟩) np np) (n.places.map (·.tok))] | none => []) ++ (match o1 with | some x => netRows x.1 x.2.1 n.places x.2.2 | none => [])
structure NP (W0 W : World) (n : Nt) (np nt : Nat) (ap at_ : Option Addr) (cp ct : Nat) (xb : Nat) (o1 : Option (Value × Value × List (Tr × Value × Value × Value))) (o2 : Option Nat) : Prop where
  all : AllOwn W0.heap.size W (npRows n np o1 o2)
  low : Below W0.heap.size W0 W
  l : ∀ x, o1 = some x → x.2.2.map (·.1) = n.trans
  net : NetAt W0 (.slice ap np cp) (.slice at_ nt ct) n
  hnp : np = n.places.length
  hnt : nt = n.trans.length
  nok : NOk n
  xl : xb < W0.heap.size
  x0 : W0.cell? ⟨xb, 0, none⟩ = some (.slice ap np cp)
  x1 : W0.cell? ⟨xb, 1, none⟩ = some (.slice at_ nt ct)
section
variable {W0 W : World} {n : Nt} {np nt : Nat} {ap at_ : Option Addr} {cp ct xb : Nat} {o1 : Option (Value × Value × List (Tr × Value × Value × Value))} {o2 : Option Nat}
theorem NP.cells (h : NP W0 W n np nt ap at_ cp ct xb o1 o2) : W.cell? ⟨xb, 0, none⟩ = some (.slice ap np cp) ∧ W.cell? ⟨xb, 1, none⟩ = some (.slice at_ nt ct) :=
  ⟨(below_cells h.low xb 0 h.xl).trans h.x0, (below_cells h.low xb 1 h.xl).trans h.x1⟩
theorem NP.one (h : NP W0 W n np nt ap at_ cp ct xb none o2) : Calls Try.prog 58 #[.agg #[.slice ap np cp, .slice at_ nt ct]] W fun e w' => ∃ vp vt l, e = .returned (.agg #[vp, vt]) ∧ NP W0 w' n np nt ap at_ cp ct xb (some (vp, vt, l)) o2 := by
  refine (copy_any h.hnp h.hnt (by have := h.nok.pl; have := h.hnp; omega) (by have := h.nok.tr; have := h.hnt; omega) (fun t ht => by have := h.nok.len t ht; omega) (h.net.below h.low)).mono ?_
  rintro e w' ⟨vp, vt, rfl, ⟨l, hl, hA⟩, hb⟩
  refine ⟨vp, vt, l, rfl, ?_, h.low.trans (hb.mono h.low.size), fun x e => by injection e with e; subst e; exact hl, h.net, h.hnp, h.hnt, h.nok, h.xl, h.x0, h.x1⟩
  have := h.all
  unfold npRows at this ⊢
  simp only [List.append_nil] at this
  have h3 := AllOwn.insL (post := []) (by simpa using this) hb hA h.low.size
  simpa using h3
theorem NP.two (h : NP W0 W n np nt ap at_ cp ct xb o1 none) : Calls Try.prog 54 #[.agg #[.slice ap np cp, .slice at_ nt ct]] W fun e w' => ∃ b, e = .returned (.slice (some ⟨b, 0, none⟩) np np) ∧ NP W0 w' n np nt ap at_ cp ct xb o1 (some b) := by
  refine (first_any h.hnp (by have := h.nok.pl; have := h.hnp; omega) (h.net.below h.low).1).mono ?_
  rintro e w' ⟨b, rfl, ho, hb⟩
  refine ⟨b, rfl, ?_, h.low.trans (hb.mono h.low.size), h.l, h.net, h.hnp, h.hnt, h.nok, h.xl, h.x0, h.x1⟩
  have := h.all
  unfold npRows at this ⊢
  simp only [List.nil_append] at this
  have h3 := AllOwn.insL (pre := []) (rs' := [intRow (.slice (some ⟨b, 0, none⟩) np np) (n.places.map (·.tok))]) (by simpa using this) hb (AllOwn.one (by unfold intRow Row.own; simp only; rw [List.length_map, ← h.hnp]; have := ho; unfold OwnI at this; rw [List.length_map, ← h.hnp] at this; exact this)) h.low.size
  simpa using h3
end

/-- an engine's box, and the rows beside it, as it is made -/
structure NB (W0 W : World) (bx : Nat) (cs : List Value) (rows : List Row) : Prop where
  all : AllOwn W0.heap.size W (boxRow bx 105 cs :: rows)
  low : Below W0.heap.size W0 W
section
variable {W0 W W' : World} {bx : Nat} {cs : List Value} {rows pre post rs' : List Row}
theorem NB.cell (h : NB W0 W bx cs rows) {j : Nat} {x : Value} (hj : cs[j]? = some x) : W.cell? ⟨bx, j, none⟩ = some x := boxRow.cell (h.all.own (boxRow bx 105 cs) (by simp)) hj
theorem NB.froz (h : NB W0 W bx cs rows) (j : Nat) : W.frozen? ⟨bx, j, none⟩ = false := boxRow.froz (h.all.own (boxRow bx 105 cs) (by simp)) j
theorem NB.lt (h : NB W0 W bx cs rows) : W0.heap.size ≤ bx ∧ bx < W.heap.size := boxRow.lt (h.all.own (boxRow bx 105 cs) (by simp))
theorem NB.ins (h : NB W0 W bx cs (pre ++ post)) (hb : Below W.heap.size W W') (h2 : AllOwn W.heap.size W' rs') : NB W0 W' bx cs (pre ++ (rs' ++ post)) :=
  ⟨AllOwn.insL (pre := boxRow bx 105 cs :: pre) h.all hb h2 h.low.size, h.low.trans (hb.mono h.low.size)⟩
theorem NB.put (h : NB W0 W bx cs rows) (j : Nat) (x : Value) : NB W0 (W.setCell ⟨bx, j, none⟩ x) bx (cs.set j x) rows := by
  have h3 := AllOwn.store (pre := []) (b := bx) (t := 105) (cs := cs) (post := rows) h.all j x
  exact ⟨h3.1, h.low.trans (h3.2.below (fun k e => by subst e; exact h.lt.1) h.low.size)⟩
theorem NB.turn {r r' : Row} {g : Nat} (h : NB W0 W bx cs (pre ++ r :: post)) (hk : Kept (fun k => k = g) W W') (hg : r.v.ownBlock = some g) (ho : r'.own W0.heap.size W') (hv : r'.v = r.v) : NB W0 W' bx cs (pre ++ r' :: post) := by
  have h3 := AllOwn.swap (pre := boxRow bx 105 cs :: pre) (r := r) (r' := r') (post := post) h.all (hk.mono (fun k _ e => by subst e; exact hg)) ho (.inl (by rw [hv]))
  exact ⟨h3, h.low.trans (hk.below (fun k e => by subst e; exact (Row.lt (h.all.own r (by simp)) hg).1) h.low.size)⟩
theorem NB.go (h : NB W0 W bx cs rows) (hb : Below W.heap.size W W') : NB W0 W' bx cs rows := ⟨h.all.below hb, h.low.trans (hb.mono h.low.size)⟩
end

theorem NP.box {W0 W : World} {n : Nt} {np nt : Nat} {ap at_ : Option Addr} {cp ct xb bm : Nat} {vp vt : Value} {l : List (Tr × Value × Value × Value)} (h : NP W0 W n np nt ap at_ cp ct xb (some (vp, vt, l)) (some bm)) (cs : Array Value) :
    NB W0 (W.alloc (.cells cs 105)) W.heap.size cs.toList (intRow (.slice (some ⟨bm, 0, none⟩) np np) (n.places.map (·.tok)) :: netRows vp vt n.places l) := by
  have h1 := AllOwn.insL (pre := []) (post := npRows n np (some (vp, vt, l)) (some bm)) h.all ((Below.refl _ _).alloc (Nat.le_refl _) _) (AllOwn.one (boxRow.new W.heap.size W 105 cs (Nat.le_refl _))) h.low.size
  exact ⟨h1, h.low.trans (((Below.refl _ _).alloc (Nat.le_refl _) _).mono h.low.size)⟩

/-- an engine's own, as New lays it -/
def ecNew (bx bq bm bw ba be np nt : Nat) (vp vt : Value) (n : Nt) (l : List (Tr × Value × Value × Value)) (la : List Bool) : EC :=
  ⟨bx, bq, nt, bm, np, bw, np, vp, vt, .slice (some ⟨ba, 0, none⟩) np np, .slice (some ⟨be, 0, none⟩) np np, n, l, awayOf np la, List.replicate np (.slice none 0 0, []), []⟩
def egNew (n : Nt) (np nt : Nat) : Eg := ⟨[], [], List.replicate nt false, [], [], n.places.map (·.tok), List.replicate np 0, 0⟩

theorem NB.done {W0 W : World} {bx bq bm bw ba be np nt : Nat} {vp vt : Value} {n : Nt} {l : List (Tr × Value × Value × Value)} {la : List Bool}
    (h : NB W0 W bx [vp, vt, .slice (some ⟨ba, 0, none⟩) np np, .slice (some ⟨be, 0, none⟩) np np, .slice none 0 0, .slice none 0 0, .slice (some ⟨bq, 0, none⟩) nt nt, .slice none 0 0, .slice none 0 0, .slice (some ⟨bm, 0, none⟩) np np, .slice (some ⟨bw, 0, none⟩) np np, .int .i64 0]
      (boolRow (.slice (some ⟨bq, 0, none⟩) nt nt) (List.replicate nt false) :: intRow (.slice (some ⟨bm, 0, none⟩) np np) (n.places.map (·.tok)) :: intRow (.slice (some ⟨bw, 0, none⟩) np np) (List.replicate np 0) :: boolRow (.slice (some ⟨ba, 0, none⟩) np np) (awayOf np la) :: slsRow (.slice (some ⟨be, 0, none⟩) np np) ((List.replicate np (Value.slice none 0 0, ([] : List Int))).map (·.1)) :: ((List.replicate np (Value.slice none 0 0, ([] : List Int))).map (fun x => intRow x.1 x.2) ++ netRows vp vt n.places l))) :
    EgAt W0 W (ecNew bx bq bm bw ba be np nt vp vt n l la) (egNew n np nt) := by
  have hnil : AllOwn W.heap.size W [keyRow (.slice none 0 0) [], keyRow (.slice none 0 0) []] := ⟨fun x hx => by
    simp at hx; subst hx; exact World.ownsRow_nil _ _ _ _, by simp [Apart]; intro k h1; cases h1⟩
  have hnil2 : AllOwn W.heap.size W [evRow (.slice none 0 0) [], fiRow (.slice none 0 0) []] := ⟨fun x hx => by
    simp at hx; rcases hx with rfl | rfl <;> exact World.ownsRow_nil _ _ _ _, by simp [Apart]; intro k h1; cases h1⟩
  have h1 := NB.ins (pre := []) h (Below.refl _ _) hnil
  have h2 := NB.ins (pre := [keyRow (.slice none 0 0) [], keyRow (.slice none 0 0) [], boolRow (.slice (some ⟨bq, 0, none⟩) nt nt) (List.replicate nt false)]) (by simpa using h1) (Below.refl _ _) hnil2
  refine ⟨.slice none 0 0, .slice none 0 0, .slice none 0 0, .slice none 0 0, ?_, h2.low⟩
  have := h2.all
  simpa [egRows, egCs, EC.fix, ecNew, egNew, EC.vq, EC.vm, EC.vw] using this

/-- the engine's own transitions, as far as told -/
def mineOf (T : Nat) (lm : List Bool) (i : Nat) : Bool := decide (i < T) && lm.getD i false

set_option maxRecDepth 100000 in
set_option maxHeartbeats 8000000 in
theorem new_any {w : World} {n : Nt} {ap at_ am aa : Option Addr} {cp ct np nt nm cm na ca : Nat} {lm la : List Bool} (hnp : np = n.places.length) (hnt : nt = n.trans.length) (hnet : NetAt w (.slice ap np cp) (.slice at_ nt ct) n) (hs : ∀ s ∈ n.names, s.size ≤ 9223372036854775807) (hq : checkN n = 0)
    (hnm : nm = lm.length) (hna : na = la.length) (hM : BoolsAt w (.slice am nm cm) lm) (hA : BoolsAt w (.slice aa na ca) la) :
    Calls Try.prog 32 #[.agg #[.slice ap np cp, .slice at_ nt ct], .slice am nm cm, .slice aa na ca] w fun r w' => ∃ c e, r = .returned (.pointer (some ⟨c.b, 0, none⟩)) ∧ EOk c ∧ c.n = n ∧ c.aw = awayOf np la ∧ EyesOk c (mineOf nt lm) ∧ EgAt w w' c e ∧ EgSt c (mineOf nt lm) e (start n) ∧ e.told = [] ∧ e.t = 0 := by
  have hok := checkN_nok hq
  have hp32 : np ≤ 32 := by rw [hnp]; exact hok.pl
  have ht32 : nt ≤ 32 := by rw [hnt]; exact hok.tr
  have hbox := InBox.start w (.slice ap np cp) (.slice at_ nt ct)
  have hck : Calls Try.prog 52 #[.agg #[.slice ap np cp, .slice at_ nt ct]] (w.alloc (.cells #[.slice ap np cp, .slice at_ nt ct] 31)) fun e w' => e = .returned (.int .i64 0) ∧ Below (w.alloc (.cells #[.slice ap np cp, .slice at_ nt ct] 31)).heap.size (w.alloc (.cells #[.slice ap np cp, .slice at_ nt ct] 31)) w' := by
    subst hnp hnt
    have := check_any (hnet.below hbox.old) hs
    rw [hq] at this
    exact this
  have Hck := Lib.hid hck
  have Hbox := Lib.hid hbox
  have Hnet := Lib.hid hnet
  have Hok := Lib.hid hok
  have Hnp := Lib.hid hnp
  have Hnt := Lib.hid hnt
  have Hnm := Lib.hid hnm
  have Hna := Lib.hid hna
  have HM := Lib.hid hM
  have HA := Lib.hid hA
  have hmx : nm ≤ 9223372036854775807 := by have := RowAt.max hM; omega
  clear hnp hnt hnet hs hq hnm hna hM hA hok hbox hck
  go_enter Try.func32, Try.ntmps32
  go_wp2_with fail
  refine Hck.out.mono ?_
  rintro e W0 ⟨rfl, hb0⟩
  have hbx0 := Hbox.out.go hb0
  have Hold := Lib.hid hbx0.old
  have x0 := hbx0.c0
  have x1 := hbx0.c1
  have xl := hbx0.size
  have H := Lib.hid (show NP W0 W0.drew n np nt ap at_ cp ct w.heap.size none none from ⟨⟨(fun r hr => by cases hr), List.Pairwise.nil⟩, (Below.refl _ _).drew, (fun x e => by cases e), Hnet.out.below Hold.out, Hnp.out, Hnt.out, Hok.out, xl, x0, x1⟩)
  have HX := Lib.hid (And.intro xl (And.intro x0 x1))
  obtain ⟨xb, hxb⟩ : ∃ xb, xb = w.heap.size := ⟨_, rfl⟩
  have Hxb := Lib.hid hxb
  rw [← hxb] at H HX x0 x1 xl
  have hwx : w.heap.size ≤ xb := by omega
  clear hbx0 hb0 Hck Hbox hxb
  go_upto_region 3 with (fail)
  rw [← Hxb.out]
  go_cut [7] from 12 to 17 (fun s7 wc => ∃ bx vp vt l bm, s7 = .pointer (some ⟨bx, 0, none⟩) ∧ l.map (·.1) = n.trans ∧ NB W0 wc bx [vp, vt, .slice none 0 0, .slice none 0 0, .slice none 0 0, .slice none 0 0, .slice none 0 0, .slice none 0 0, .slice none 0 0, .slice (some ⟨bm, 0, none⟩) np np, .slice none 0 0, .int .i64 0] (intRow (.slice (some ⟨bm, 0, none⟩) np np) (n.places.map (·.tok)) :: netRows vp vt n.places l))
  case first =>
    have kk := And.intro x0 x1
    go_region_held3 (fun w' => w'.cell? ⟨xb, 0, none⟩ = some (.slice ap np cp) ∧ w'.cell? ⟨xb, 1, none⟩ = some (.slice at_ nt ct)) (first | go_keep | exact kk) (first | (go_simp; go_at_call 58; refine H.out.one.mono ?_; rintro r w4 ⟨vp, vt, l, rfl, h4⟩; have kk := h4.cells; have H := Lib.hid h4; clear h4) | (go_simp; go_at_call 54; refine H.out.two.mono ?_; rintro r w4 ⟨bm, rfl, h4⟩; have kk := h4.cells; have H := Lib.hid h4; clear h4))
    all_goals
      have hnb := H.out.box #[vp, vt, .slice none 0 0, .slice none 0 0, .slice none 0 0, .slice none 0 0, .slice none 0 0, .slice none 0 0, .slice none 0 0, .slice (some ⟨bm, 0, none⟩) np np, .slice none 0 0, .int .i64 0]
      have Hnb := Lib.hid hnb
      clear hnb kk x0 x1
      go_wp2
      go_meet
      case rel => exact ⟨_, vp, vt, l, bm, rfl, H.out.l _ rfl, Hnb.out⟩
  case rest =>
    rename World => W3
    obtain ⟨bx, vp, vt, l, bm, rfl, hl, h3⟩ := hcut
    have Hl := Lib.hid hl
    clear hl x0 x1 H
    have cell0 : ∀ W, Below W0.heap.size W0 W → W.cell? ⟨xb, 0, none⟩ = some (.slice ap np cp) := fun W hW => (below_cells hW xb 0 HX.out.1).trans HX.out.2.1
    have cell1 : ∀ W, Below W0.heap.size W0 W → W.cell? ⟨xb, 1, none⟩ = some (.slice at_ nt ct) := fun W hW => (below_cells hW xb 1 HX.out.1).trans HX.out.2.2
    have C0 := Lib.hid cell0
    have C1 := Lib.hid cell1
    clear cell0 cell1
    -- way
    obtain ⟨w4, hmk, ho, hb⟩ := run_make_ints np (by omega) W3
    obtain ⟨bw, hbw⟩ : ∃ q, q = W3.heap.size := ⟨_, rfl⟩
    rw [← hbw] at hmk ho
    have h4 := NB.ins (pre := [intRow (.slice (some ⟨bm, 0, none⟩) np np) (n.places.map (·.tok))]) h3 hb (AllOwn.one (r := intRow (.slice (some ⟨bw, 0, none⟩) np np) (List.replicate np 0)) (by rw [← hbw]; exact ho))
    have x0 := C0.out _ h3.low
    have k10 := h4.cell (j := 10) rfl
    have f10 := h4.froz 10
    have l10 := h4.lt.2
    have h5 := h4.put 10 (.slice (some ⟨bw, 0, none⟩) np np)
    have H5 := Lib.hid h5
    clear hbw ho hb h4 h5 h3
    go_upto_region 5 with (fail)
    clear x0 k10 f10 l10 hmk
    revert H5
    generalize (w4.setCell ⟨bx, 10, none⟩ (.slice (some ⟨bw, 0, none⟩) np np)) = W5
    intro H5
    -- away
    obtain ⟨w6, hmk, ho, hb⟩ := run_make_bools np (by omega) W5
    obtain ⟨ba, hba⟩ : ∃ q, q = W5.heap.size := ⟨_, rfl⟩
    rw [← hba] at hmk ho
    have hrow : (boolRow (.slice (some ⟨ba, 0, none⟩) np np) (List.replicate np false)).own W5.heap.size w6 := by
      refine Blk.row ?_ (by rw [hba]; exact Nat.le_refl _) (by simp) (by omega)
      rw [List.map_replicate]; exact ho
    have h6 := NB.ins (pre := [intRow (.slice (some ⟨bm, 0, none⟩) np np) (n.places.map (·.tok)), intRow (.slice (some ⟨bw, 0, none⟩) np np) (List.replicate np 0)]) H5.out hb (AllOwn.one hrow)
    have x0 := C0.out _ H5.out.low
    have k2 := h6.cell (j := 2) rfl
    have f2 := h6.froz 2
    have l2 := h6.lt.2
    have h7 := h6.put 2 (.slice (some ⟨ba, 0, none⟩) np np)
    have H7 := Lib.hid h7
    clear hba ho hb hrow h6 h7 H5
    go_upto_region 6 with (fail)
    clear x0 k2 f2 l2 hmk
    revert H7
    generalize (w6.setCell ⟨bx, 2, none⟩ (.slice (some ⟨ba, 0, none⟩) np np)) = W7
    intro H7
    -- copy
    have hr7 : (boolRow (.slice (some ⟨ba, 0, none⟩) np np) (List.replicate np false)).own W0.heap.size W7 := H7.out.all.own _ (by simp)
    obtain ⟨w8, hrun, hb8, hk8⟩ := copy_away (Blk.of_row hr7 (by simp)) Hna.out (HA.out.below (Hold.out.trans (H7.out.low.mono Hold.out.size)))
    have hr8 : (boolRow (.slice (some ⟨ba, 0, none⟩) np np) (awayOf np la)).own W0.heap.size w8 := Blk.row hb8 (Row.lt hr7 rfl).1 (awayOf_len _ _) (by omega)
    have h8 := NB.turn (pre := [intRow (.slice (some ⟨bm, 0, none⟩) np np) (n.places.map (·.tok)), intRow (.slice (some ⟨bw, 0, none⟩) np np) (List.replicate np 0)]) (r := boolRow (.slice (some ⟨ba, 0, none⟩) np np) (List.replicate np false)) (r' := boolRow (.slice (some ⟨ba, 0, none⟩) np np) (awayOf np la)) (g := ba) (by simpa using H7.out) hk8 rfl hr8 rfl
    have H8 := Lib.hid h8
    have k2 := H7.out.cell (j := 2) rfl
    have l7 := H7.out.lt.2
    clear hr7 hb8 hk8 hr8 h8 H7
    go_upto_region 7 with (fail)
    clear k2 l7 hrun
    -- eyes
    obtain ⟨w9, hmk, ho, hb⟩ := run_make_sls np (by omega) w8
    obtain ⟨be, hbe⟩ : ∃ q, q = w8.heap.size := ⟨_, rfl⟩
    rw [← hbe] at hmk ho
    have h9a := NB.ins (pre := [intRow (.slice (some ⟨bm, 0, none⟩) np np) (n.places.map (·.tok)), intRow (.slice (some ⟨bw, 0, none⟩) np np) (List.replicate np 0), boolRow (.slice (some ⟨ba, 0, none⟩) np np) (awayOf np la)]) H8.out hb (AllOwn.one (by rw [← hbe]; exact ho))
    have h9 := NB.ins (pre := [intRow (.slice (some ⟨bm, 0, none⟩) np np) (n.places.map (·.tok)), intRow (.slice (some ⟨bw, 0, none⟩) np np) (List.replicate np 0), boolRow (.slice (some ⟨ba, 0, none⟩) np np) (awayOf np la), slsRow (.slice (some ⟨be, 0, none⟩) np np) ((List.replicate np (Value.slice none 0 0, ([] : List Int))).map (·.1))]) (post := netRows vp vt n.places l) h9a (Below.refl _ _) (AllOwn.nils np)
    have x0 := C0.out _ H8.out.low
    have k3 := h9.cell (j := 3) rfl
    have f3 := h9.froz 3
    have l3 := h9.lt.2
    have h10 := h9.put 3 (.slice (some ⟨be, 0, none⟩) np np)
    have H10 := Lib.hid h10
    clear hbe ho hb h9a h9 h10 H8
    go_upto_region 8 with (fail)
    clear x0 k3 f3 l3 hmk
    revert H10
    generalize (w9.setCell ⟨bx, 3, none⟩ (.slice (some ⟨be, 0, none⟩) np np)) = W10
    intro H10
    -- queued
    obtain ⟨w11, hmk, ho, hb⟩ := run_make_bools nt (by omega) W10
    obtain ⟨bq, hbq⟩ : ∃ q, q = W10.heap.size := ⟨_, rfl⟩
    rw [← hbq] at hmk ho
    have hrow : (boolRow (.slice (some ⟨bq, 0, none⟩) nt nt) (List.replicate nt false)).own W10.heap.size w11 := by
      refine Blk.row ?_ (by rw [hbq]; exact Nat.le_refl _) (by simp) (by omega)
      rw [List.map_replicate]; exact ho
    have h11 := NB.ins (pre := []) H10.out hb (AllOwn.one hrow)
    have x1 := C1.out _ H10.out.low
    have k6 := h11.cell (j := 6) rfl
    have f6 := h11.froz 6
    have l6 := h11.lt.2
    have h12 := h11.put 6 (.slice (some ⟨bq, 0, none⟩) nt nt)
    have H12 := Lib.hid h12
    clear hbq ho hb hrow h11 h12 H10
    go_upto_region 9 with (fail)
    clear x1 k6 f6 l6 hmk
    revert H12
    generalize (w11.setCell ⟨bx, 6, none⟩ (.slice (some ⟨bq, 0, none⟩) nt nt)) = W12
    intro H12
    have heg := NB.done (by simpa using H12.out)
    have Heg := Lib.hid heg
    have x1 := C1.out _ H12.out.low
    have Hl12 := Lib.hid H12.out.low
    clear heg H12 C0
    obtain ⟨C, hC⟩ : ∃ C, C = ecNew bx bq bm bw ba be np nt vp vt n l la := ⟨_, rfl⟩
    obtain ⟨E, hE⟩ : ∃ E, E = egNew n np nt := ⟨_, rfl⟩
    have fb : C.b = bx := by rw [hC]; rfl
    have fn : C.n = n := by rw [hC]; rfl
    have fl : C.l = l := by rw [hC]; rfl
    have fa : C.aw = awayOf np la := by rw [hC]; rfl
    have fq : C.nq = nt := by rw [hC]; rfl
    have fm : C.nm = np := by rw [hC]; rfl
    have fw : C.nw = np := by rw [hC]; rfl
    have fes : C.eyes (List.replicate np (Value.slice none 0 0, [])) = C := by rw [hC]; rfl
    have fE : E = { E with rdy := [], qd := qdTo nt 0 (mineOf nt lm) } := by
      rw [hE]; unfold egNew qdTo; simp
      apply List.ext_getElem?
      intro j
      by_cases hj : j < nt
      · simp [hj]
      · rw [List.getElem?_eq_none (by simp; omega), List.getElem?_eq_none (by simp; omega)]
    have fe1 : E.due = [] ∧ E.told = [] ∧ E.log = [] ∧ E.m = n.places.map (·.tok) ∧ E.way = List.replicate np 0 ∧ E.t = 0 := by rw [hE]; exact ⟨rfl, rfl, rfl, rfl, rfl, rfl⟩
    rw [← hC, ← hE] at Heg
    have HF := Lib.hid (And.intro fb (And.intro fn (And.intro fl (And.intro fa (And.intro fq (And.intro fm (And.intro fw (And.intro fes (And.intro fE fe1)))))))))
    have HOk : Hid (∀ es, EOk (C.eyes es)) := Lib.hid (fun es => ⟨by show C.l.map (·.1) = C.n.trans; rw [fl, fn]; exact Hl.out, by show NOk C.n; rw [fn]; exact Hok.out, by show C.nq = C.n.trans.length; rw [fq, fn]; exact Hnt.out, by show C.nm = C.n.places.length; rw [fm, fn]; exact Hnp.out, by show C.nw = C.n.places.length; rw [fw, fn]; exact Hnp.out⟩)
    have hstart : RQ n.trans [] (qdTo nt 0 (mineOf nt lm)) := ⟨(fun j h1 h2 => by simp at h2), by rw [qdTo_len]; exact Hnt.out, by
      unfold keysQ
      have : (List.range n.trans.length).filter (qB (qdTo nt 0 (mineOf nt lm))) = [] := by
        rw [List.filter_eq_nil_iff]
        intro j hj
        rw [qdTo_at (by rw [Hnt.out]; exact List.mem_range.1 hj)]
        simp
      rw [this]
      exact List.Perm.refl _⟩
    have Hst := Lib.hid hstart
    clear fb fn fl fa fq fm fw fes fE fe1 hstart
    have hmn : nm ≤ 9223372036854775807 := hmx
    go_wp2
    clear x1
    go_loopw [58] (fun i wr => ∃ k : Nat, k ≤ min nm nt ∧ i = .int .i64 k ∧ ∃ es' R, es'.length = np ∧ EyesTo n.trans (mineOf nt lm) k (es'.map (·.2)) ∧ RQ n.trans R (qdTo nt k (mineOf nt lm)) ∧ EgAt W0 wr (C.eyes es') { E with rdy := R, qd := qdTo nt k (mineOf nt lm) }) (fun i _ => min nm nt - (intOf i).toNat)
    case atStart => exact ⟨0, by omega, rfl, List.replicate np (.slice none 0 0, []), [], by simp, by rw [List.map_replicate]; exact EyesTo.start _ _ _, Hst.out, by rw [HF.out.2.2.2.2.2.2.2.1, ← HF.out.2.2.2.2.2.2.2.2.1]; exact Heg.out⟩
    case round =>
      rename World => v1
      obtain ⟨k, hk, rfl, es', R, hel, hey, hrq, heg⟩ := hrel
      by_cases hlt : k < min nm nt
      · have hkm : k < nm := by omega
        have hkt : k < nt := by omega
        have hmi : (k : Int) < (nm : Int) := by omega
        have hti : (k : Int) < (nt : Int) := by omega
        obtain ⟨x, hx⟩ := at_lt (l := lm) (k := k) (by rw [← Hnm.out]; exact hkm)
        obtain ⟨bM, oM, rfl, hbM, y0⟩ := (HM.out.below (Hold.out.trans (heg.low.mono Hold.out.size))).at_ hx
        have hmine : mineOf nt lm k = x := by unfold mineOf; simp [List.getD, hx, hkt]
        cases x with
        | false =>
          have Hey := Lib.hid (hey.skip hmine)
          have hqd := qdTo_skip (n := nt) hmine
          have Hrq : Hid (RQ n.trans R (qdTo nt (k + 1) (mineOf nt lm))) := Lib.hid (by rw [hqd]; exact hrq)
          have Heg2 : Hid (EgAt W0 v1 (C.eyes es') { E with rdy := R, qd := qdTo nt (k + 1) (mineOf nt lm) }) := Lib.hid (by rw [hqd]; exact heg)
          have Hel := Lib.hid hel
          clear hey hrq heg hel hqd hmine hx
          go_wp2
          go_roundw
          case rel => exact ⟨k + 1, by omega, by go_num, es', R, Hel.out, Hey.out, Hrq.out, Heg2.out⟩
          case measure => simp [intOf]; omega
        | true =>
          obtain ⟨t, ht⟩ := at_lt (l := n.trans) (k := k) (by rw [← Hnt.out]; exact hkt)
          have hop := eopen_any (c := C.eyes es') (i := k) (x := t) (HOk.out es').l (HOk.out es').nok (by show es'.length = C.n.places.length; rw [HF.out.2.1, hel, Hnp.out]) (fun y hy => by
            have := hey.small y.2 (List.mem_map_of_mem (f := (·.2)) hy)
            omega) heg (by show C.n.trans[k]? = some t; rw [HF.out.2.1]; exact ht)
          have hadd := hey.add Hok.out (by rw [List.length_map, hel, Hnp.out]) ht hmine
          have hqd := qdTo_add (n := nt) hkt hmine
          have hbx : (C.eyes es').b = bx := HF.out.1
          rw [hbx] at hop
          have Hop := Lib.hid hop
          have Hadd := Lib.hid hadd
          have Hqd := Lib.hid hqd
          have Hrq := Lib.hid hrq
          have Hel := Lib.hid hel
          clear hop hadd hqd hrq hel heg hmine hx ht hey hbx
          go_wp2_with fail
          refine Hop.out.mono ?_
          rintro r w2 ⟨rfl, es2, he2, hm2, hg2⟩
          have hqu := queue_any (c := (C.eyes es').eyes es2) (HOk.out es2) hg2 (i := k) (by show k < C.n.trans.length; rw [HF.out.2.1, ← Hnt.out]; exact hkt) (by show RQ C.n.trans R _; rw [HF.out.2.1]; exact Hrq.out)
          have hbx : ((C.eyes es').eyes es2).b = bx := HF.out.1
          rw [hbx] at hqu
          have Hqu := Lib.hid hqu
          have He2 := Lib.hid (And.intro he2 hm2)
          clear hqu he2 hm2 hg2 hbx
          go_wp2_with fail
          refine Hqu.out.mono ?_
          rintro r w3 ⟨rfl, R', hr', hg3⟩
          have Hr' : Hid (RQ n.trans R' (qdTo nt (k + 1) (mineOf nt lm))) := Lib.hid (by
            have h1 : RQ C.n.trans R' ((qdTo nt k (mineOf nt lm)).set k true) := hr'
            rw [HF.out.2.1, Hqd.out] at h1; exact h1)
          have Hg3 : Hid (EgAt W0 w3 (C.eyes es2) { E with rdy := R', qd := qdTo nt (k + 1) (mineOf nt lm) }) := Lib.hid (by
            have h1 : EgAt W0 w3 (C.eyes es2) { E with rdy := R', qd := (qdTo nt k (mineOf nt lm)).set k true } := hg3
            rw [Hqd.out] at h1; exact h1)
          clear hr' hg3
          go_wp2
          go_roundw
          case rel => exact ⟨k + 1, by omega, by go_num, es2, R', by rw [He2.out.1]; exact Hel.out, by rw [He2.out.2]; exact Hadd.out, Hr'.out, Hg3.out⟩
          case measure => simp [intOf]; omega
      · have hge : ¬ k < min nm nt := hlt
        have hmineEnd : ∀ i, mineOf nt lm i = true → i < k := fun i hi => by
          unfold mineOf at hi
          rw [Bool.and_eq_true, decide_eq_true_iff] at hi
          have : i < nm := by
            rw [Hnm.out]
            by_cases h : i < lm.length
            · exact h
            · rw [List.getD, List.getElem?_eq_none (by omega)] at hi; cases hi.2
          omega
        have Hfin : Hid (∃ c e, Ending.returned (Value.pointer (some ⟨bx, 0, none⟩)) = .returned (.pointer (some ⟨c.b, 0, none⟩)) ∧ EOk c ∧ c.n = n ∧ c.aw = awayOf np la ∧ EyesOk c (mineOf nt lm) ∧ EgAt w v1 c e ∧ EgSt c (mineOf nt lm) e (start n) ∧ e.told = [] ∧ e.t = 0) := Lib.hid (by
          refine ⟨C.eyes es', { E with rdy := R, qd := qdTo nt k (mineOf nt lm) }, by rw [show (C.eyes es').b = bx from HF.out.1], HOk.out es', HF.out.2.1, HF.out.2.2.2.1, ⟨by show es'.length = C.n.places.length; rw [HF.out.2.1, hel, Hnp.out], fun p v el hp => ?_⟩, ?_, ?_, HF.out.2.2.2.2.2.2.2.2.2.2.1, HF.out.2.2.2.2.2.2.2.2.2.2.2.2.2.2⟩
          · have hp2 : (es'.map (·.2))[p]? = some el := by rw [List.getElem?_map, show es'[p]? = some (v, el) from hp]; rfl
            refine ⟨fun j hj => ?_, fun i x hx hmi hlk => ?_⟩
            · obtain ⟨h1, h2⟩ := hey.own p el hp2 j hj
              refine ⟨⟨h1.1, ?_⟩, h2⟩
              show j < (C.n.trans.length : Int)
              rw [HF.out.2.1, ← Hnt.out]; omega
            · have hx' : n.trans[i]? = some x := by have h1 : C.n.trans[i]? = some x := hx; rwa [HF.out.2.1] at h1
              exact hey.all p el hp2 i x (hmineEnd i hmi) hx' hmi hlk
          · obtain ⟨vd, vr, vo, vl, h1, h2⟩ := heg
            exact ⟨vd, vr, vo, vl, h1.mono Hold.out.size, Hold.out.trans (h2.mono Hold.out.size)⟩
          · obtain ⟨f1, f2, f3, f4, f5, f6⟩ := HF.out.2.2.2.2.2.2.2.2.2
            refine ⟨?_, ?_, f4, f3, ?_, ?_, ?_, ?_⟩
            · show IsHeap E.due; rw [f1]; intro j h1 h2; simp at h2
            · show E.due.Perm _; rw [f1]; exact List.Perm.refl _
            · show E.way = wayL C.n.places.length []; rw [f5, HF.out.2.1, ← Hnp.out]; rfl
            · show RQ C.n.trans R _; rw [HF.out.2.1]; exact hrq
            · intro i hi hmi _
              have hi' : i < nt := by have h1 : i < C.n.trans.length := hi; rwa [HF.out.2.1, ← Hnt.out] at h1
              show qB (qdTo nt k (mineOf nt lm)) i = true
              rw [qdTo_at hi', hmi, decide_eq_true (hmineEnd i hmi)]; rfl
            · intro i hi
              have hi2 : qB (qdTo nt k (mineOf nt lm)) i = true := hi
              by_cases h : i < nt
              · rw [qdTo_at h, Bool.and_eq_true] at hi2; exact hi2.2
              · unfold qB at hi2; rw [List.getD, List.getElem?_eq_none (by rw [qdTo_len]; omega)] at hi2; cases hi2)
        clear hel hey hrq heg hmineEnd
        go_wp2
        go_ret
        exact Hfin.out
end Go.Proofs.Ytpbbdnicafifpaa
