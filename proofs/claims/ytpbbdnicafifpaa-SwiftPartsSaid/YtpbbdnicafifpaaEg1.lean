/-
  An engine's box and its rows; one of them turned; what Push, Pop and Top of its two heaps come to. What queue and wake of the engine come to: a transition is queued, and all that look at a place. What put, Come and best of the engine come to: tokens are added, or on their way; the best of those that may fire. What refuse and Come of the engine come to; its firings and what it tells: one more. What Come and Next of the engine come to: tokens are on their way; the next time.
  Conditions: none beyond each theorem's own.
-/
import Derived.Test.YtpbbdnicafifpaaHpAll
import Derived.Test.YtpbbdnicafifpaaFireMath
import Derived.Test.YtpbbdnicafifpaaRunP
import Derived.Test.YtpbbdnicafifpaaInBx
import Derived.Deep.CutRange
/-! ## EgA -/
namespace Go.Proofs.Ytpbbdnicafifpaa
open Go.RowKit
set_option linter.unusedVariables false

def boolL (x : Bool) : List Value := [.bool x]
theorem boolL_len (x : Bool) : (boolL x).length = 1 := rfl
def boolRow (v : Value) (l : List Bool) : Row := ⟨4, 1, v, l.length, l.flatMap boolL⟩
def keyRow (v : Value) (ks : List Key4) : Row := ⟨112, 4, v, ks.length, kcells ks⟩
/-- a row of slices of ints -/
def slL (v : Value) : List Value := [v]
def slsRow (v : Value) (vs : List Value) : Row := ⟨39, 1, v, vs.length, vs.flatMap slL⟩

/-- an engine as plain data: what is due, which are queued, what is told, what fired, what is there, what is under way, when -/
structure Eg where
  due : List Key4
  rdy : List Key4
  qd : List Bool
  told : List Ev
  log : List (Int × Int)
  m : List Int
  way : List Int
  t : Int

/-- an engine's own: its box, where its rows lie, its net, which places are others', who looks at each place -/
structure EC where
  b : Nat
  bq : Nat
  nq : Nat
  bm : Nat
  nm : Nat
  bw : Nat
  nw : Nat
  vp : Value
  vt : Value
  va : Value
  ve : Value
  n : Nt
  l : List (Tr × Value × Value × Value)
  aw : List Bool
  es : List (Value × List Int)
  more : List Row

def EC.vq (c : EC) : Value := .slice (some ⟨c.bq, 0, none⟩) c.nq c.nq
def EC.vm (c : EC) : Value := .slice (some ⟨c.bm, 0, none⟩) c.nm c.nm
def EC.vw (c : EC) : Value := .slice (some ⟨c.bw, 0, none⟩) c.nw c.nw
def EC.fix (c : EC) : List Row := boolRow c.va c.aw :: slsRow c.ve (c.es.map (·.1)) :: (c.es.map (fun x => intRow x.1 x.2) ++ (netRows c.vp c.vt c.n.places c.l ++ c.more))
def egCs (c : EC) (vd vr vo vl : Value) (t : Int) : List Value := [c.vp, c.vt, c.va, c.ve, vd, vr, c.vq, vo, vl, c.vm, c.vw, .int .i64 t]
def egRows (c : EC) (vd vr vo vl : Value) (e : Eg) : List Row := [boxRow c.b 105 (egCs c vd vr vo vl e.t), keyRow vd e.due, keyRow vr e.rdy, boolRow c.vq e.qd, evRow vo e.told, fiRow vl e.log, intRow c.vm e.m, intRow c.vw e.way]
def EgAt (w0 w : World) (c : EC) (e : Eg) : Prop := ∃ vd vr vo vl, AllOwn w0.heap.size w (egRows c vd vr vo vl e ++ c.fix) ∧ Below w0.heap.size w0 w

theorem boxRow.blk {B : Nat} {w : World} {b : Nat} {t : TypeId} {cs : List Value} (h : (boxRow b t cs).own B w) {j : Nat} {x : Value} (hj : cs[j]? = some x) : ∃ cur t, w.heap[b]? = some (.cells cur t (0, 0)) ∧ cur[j]? = some x := by
  rcases h.2 with ⟨h1, _⟩ | ⟨r, cap, cur, h1, hB, hb, hl, hm, hs, ht⟩
  · cases h1
  · injection h1 with h1 _ h2
    injection h1 with h1
    injection h1 with h1
    subst h1 h2
    refine ⟨cur, t, hb, ?_⟩
    have h3 : cur.toList.take (1 * cs.length) = cs := ht
    have h4 : (cur.toList.take (1 * cs.length))[j]? = some x := by rw [h3]; exact hj
    rw [List.getElem?_take] at h4
    split at h4
    · simpa using h4
    · cases h4

section
variable {w0 w w' : World} {c : EC} {e : Eg}
theorem EgAt.low (h : EgAt w0 w c e) : Below w0.heap.size w0 w := by obtain ⟨_, _, _, _, _, h2⟩ := h; exact h2
theorem EgAt.go (h : EgAt w0 w c e) (hb : Below w.heap.size w w') : EgAt w0 w' c e := by
  obtain ⟨vd, vr, vo, vl, h1, h2⟩ := h
  exact ⟨vd, vr, vo, vl, h1.below hb, h2.trans (hb.mono h2.size)⟩
theorem EgAt.box (h : EgAt w0 w c e) : ∃ vd vr vo vl, (boxRow c.b 105 (egCs c vd vr vo vl e.t)).own w0.heap.size w := by
  obtain ⟨vd, vr, vo, vl, h1, h2⟩ := h
  exact ⟨vd, vr, vo, vl, h1.own _ (by simp [egRows])⟩
theorem EgAt.cells (h : EgAt w0 w c e) : w.cell? ⟨c.b, 0, none⟩ = some c.vp ∧ w.cell? ⟨c.b, 1, none⟩ = some c.vt ∧ w.cell? ⟨c.b, 2, none⟩ = some c.va ∧ w.cell? ⟨c.b, 3, none⟩ = some c.ve ∧ w.cell? ⟨c.b, 6, none⟩ = some c.vq ∧ w.cell? ⟨c.b, 9, none⟩ = some c.vm ∧ w.cell? ⟨c.b, 10, none⟩ = some c.vw ∧ w.cell? ⟨c.b, 11, none⟩ = some (.int .i64 e.t) ∧ c.b < w.heap.size ∧ w0.heap.size ≤ c.b := by
  obtain ⟨vd, vr, vo, vl, hB⟩ := h.box
  exact ⟨boxRow.cell hB rfl, boxRow.cell hB rfl, boxRow.cell hB rfl, boxRow.cell hB rfl, boxRow.cell hB rfl, boxRow.cell hB rfl, boxRow.cell hB rfl, boxRow.cell hB rfl, (boxRow.lt hB).2, (boxRow.lt hB).1⟩
theorem EgAt.froz (h : EgAt w0 w c e) (j : Nat) : w.frozen? ⟨c.b, j, none⟩ = false := by
  obtain ⟨vd, vr, vo, vl, hB⟩ := h.box
  exact boxRow.froz hB j
theorem EgAt.ints (h : EgAt w0 w c e) : OwnI w0.heap.size w (.slice (some ⟨c.bm, 0, none⟩) c.nm c.nm) e.m := by
  obtain ⟨vd, vr, vo, vl, h1, h2⟩ := h
  exact h1.own (intRow c.vm e.m) (by simp [egRows])
theorem EgAt.ways (h : EgAt w0 w c e) : OwnI w0.heap.size w (.slice (some ⟨c.bw, 0, none⟩) c.nw c.nw) e.way := by
  obtain ⟨vd, vr, vo, vl, h1, h2⟩ := h
  exact h1.own (intRow c.vw e.way) (by simp [egRows])
theorem EgAt.fixed (h : EgAt w0 w c e) {r : Row} (hr : r ∈ c.fix) : r.own w0.heap.size w := by
  obtain ⟨vd, vr, vo, vl, h1, h2⟩ := h
  exact h1.own r (by simp [hr])
theorem EgAt.net (h : EgAt w0 w c e) (hl : c.l.map (·.1) = c.n.trans) : NetAt w c.vp c.vt c.n := by
  obtain ⟨vd, vr, vo, vl, h1, h2⟩ := h
  have hs : (netRows c.vp c.vt c.n.places c.l).Sublist (egRows c vd vr vo vl e ++ c.fix) := by
    refine List.Sublist.trans ?_ (List.sublist_append_right _ _)
    unfold EC.fix
    refine List.Sublist.cons _ (List.Sublist.cons _ ?_)
    exact (List.sublist_append_left _ _).trans (List.sublist_append_right _ _)
  exact NetOwn.at_ (B := w0.heap.size) ⟨c.l, hl, h1.sub hs⟩
/-- the time is set -/
theorem EgAt.time (h : EgAt w0 w c e) (t' : Int) : EgAt w0 (w.setCell ⟨c.b, 11, none⟩ (.int .i64 t')) c {e with t := t'} := by
  have hb := h.cells.2.2.2.2.2.2.2.2.2
  obtain ⟨vd, vr, vo, vl, h1, h2⟩ := h
  have h3 := AllOwn.store (pre := []) (b := c.b) (t := 105) (cs := egCs c vd vr vo vl e.t) (post := [keyRow vd e.due, keyRow vr e.rdy, boolRow c.vq e.qd, evRow vo e.told, fiRow vl e.log, intRow c.vm e.m, intRow c.vw e.way] ++ c.fix) h1 11 (.int .i64 t')
  exact ⟨vd, vr, vo, vl, h3.1, h2.trans (h3.2.below (fun j e => by subst e; exact hb) h2.size)⟩
/-- what is due lies in cell 4 -/
theorem EgAt.hdue (h : EgAt w0 w c e) (hh : IsHeap e.due) : ∃ vd, HpAt w0.heap.size w c.b 4 vd e.due ∧ ∀ v' ks' w', w'.ownsRow w0.heap.size 112 4 v' ks'.length (kcells ks') → Kept (fun k => vd.ownBlock = some k) (w.setCell ⟨c.b, 4, none⟩ v') w' → (v'.ownBlock = vd.ownBlock ∨ ∃ k, v'.ownBlock = some k ∧ w.heap.size ≤ k) → EgAt w0 w' c {e with due := ks'} := by
  have hb := h.cells.2.2.2.2.2.2.2.2.2
  obtain ⟨vd, vr, vo, vl, h1, h2⟩ := h
  have hB := h1.own (boxRow c.b 105 (egCs c vd vr vo vl e.t)) (by simp [egRows])
  have hK : World.ownsRow w w0.heap.size 112 4 vd e.due.length (kcells e.due) := h1.own (keyRow vd e.due) (by simp [egRows])
  have hap : vd.ownBlock ≠ some c.b := fun he => by
    have hp := h1.apart
    unfold egRows at hp
    rw [List.cons_append, List.pairwise_cons] at hp
    exact hp.1 (keyRow vd e.due) (by simp) c.b rfl he
  refine ⟨vd, ⟨boxRow.blk hB rfl, hK, hap, hh⟩, fun v' ks' w' ho hk hf => ?_⟩
  have h3 := AllOwn.store (pre := []) (b := c.b) (t := 105) (cs := egCs c vd vr vo vl e.t) (post := [keyRow vd e.due, keyRow vr e.rdy, boolRow c.vq e.qd, evRow vo e.told, fiRow vl e.log, intRow c.vm e.m, intRow c.vw e.way] ++ c.fix) h1 4 v'
  have h4 := AllOwn.swap (pre := [boxRow c.b 105 (egCs c v' vr vo vl e.t)]) (r := keyRow vd e.due) (r' := keyRow v' ks') (post := [keyRow vr e.rdy, boolRow c.vq e.qd, evRow vo e.told, fiRow vl e.log, intRow c.vm e.m, intRow c.vw e.way] ++ c.fix) h3.1 hk ho (by rw [World.size_setCell]; exact hf)
  have h5 := h2.trans (h3.2.below (fun j e => by subst e; exact hb) h2.size)
  exact ⟨v', vr, vo, vl, h4, h5.trans (hk.below (fun k hk => (Row.lt (r := keyRow vd e.due) hK hk).1) h5.size)⟩
/-- those that are ready lie in cell 5 -/
theorem EgAt.hrdy (h : EgAt w0 w c e) (hh : IsHeap e.rdy) : ∃ vd, HpAt w0.heap.size w c.b 5 vd e.rdy ∧ ∀ v' ks' w', w'.ownsRow w0.heap.size 112 4 v' ks'.length (kcells ks') → Kept (fun k => vd.ownBlock = some k) (w.setCell ⟨c.b, 5, none⟩ v') w' → (v'.ownBlock = vd.ownBlock ∨ ∃ k, v'.ownBlock = some k ∧ w.heap.size ≤ k) → EgAt w0 w' c {e with rdy := ks'} := by
  have hb := h.cells.2.2.2.2.2.2.2.2.2
  obtain ⟨vd, vr, vo, vl, h1, h2⟩ := h
  have hB := h1.own (boxRow c.b 105 (egCs c vd vr vo vl e.t)) (by simp [egRows])
  have hK : World.ownsRow w w0.heap.size 112 4 vr e.rdy.length (kcells e.rdy) := h1.own (keyRow vr e.rdy) (by simp [egRows])
  have hap : vr.ownBlock ≠ some c.b := fun he => by
    have hp := h1.apart
    unfold egRows at hp
    rw [List.cons_append, List.pairwise_cons] at hp
    exact hp.1 (keyRow vr e.rdy) (by simp) c.b rfl he
  refine ⟨vr, ⟨boxRow.blk hB rfl, hK, hap, hh⟩, fun v' ks' w' ho hk hf => ?_⟩
  have h3 := AllOwn.store (pre := []) (b := c.b) (t := 105) (cs := egCs c vd vr vo vl e.t) (post := [keyRow vd e.due, keyRow vr e.rdy, boolRow c.vq e.qd, evRow vo e.told, fiRow vl e.log, intRow c.vm e.m, intRow c.vw e.way] ++ c.fix) h1 5 v'
  have h4 := AllOwn.swap (pre := [boxRow c.b 105 (egCs c vd v' vo vl e.t), keyRow vd e.due]) (r := keyRow vr e.rdy) (r' := keyRow v' ks') (post := [boolRow c.vq e.qd, evRow vo e.told, fiRow vl e.log, intRow c.vm e.m, intRow c.vw e.way] ++ c.fix) h3.1 hk ho (by rw [World.size_setCell]; exact hf)
  have h5 := h2.trans (h3.2.below (fun j e => by subst e; exact hb) h2.size)
  exact ⟨vd, v', vo, vl, h4, h5.trans (hk.below (fun k hk => (Row.lt (r := keyRow vr e.rdy) hK hk).1) h5.size)⟩
/-- the tokens are turned, and nothing else -/
theorem EgAt.turnM (h : EgAt w0 w c e) {m' : List Int} (ho : OwnI w0.heap.size w' (.slice (some ⟨c.bm, 0, none⟩) c.nm c.nm) m') (hk : Kept (fun k => k = c.bm) w w') : EgAt w0 w' c {e with m := m'} := by
  have hbm := h.ints.lt.1
  obtain ⟨vd, vr, vo, vl, h1, h2⟩ := h
  exact ⟨vd, vr, vo, vl, AllOwn.swap (pre := [boxRow c.b 105 (egCs c vd vr vo vl e.t), keyRow vd e.due, keyRow vr e.rdy, boolRow c.vq e.qd, evRow vo e.told, fiRow vl e.log]) (r := intRow c.vm e.m) (r' := intRow c.vm m') (post := intRow c.vw e.way :: c.fix) h1 (hk.mono (fun j _ e => by subst e; rfl)) ho (.inl rfl), h2.trans (hk.below (fun j e => by subst e; exact hbm) h2.size)⟩
theorem EgAt.turnW (h : EgAt w0 w c e) {m' : List Int} (ho : OwnI w0.heap.size w' (.slice (some ⟨c.bw, 0, none⟩) c.nw c.nw) m') (hk : Kept (fun k => k = c.bw) w w') : EgAt w0 w' c {e with way := m'} := by
  have hbm := h.ways.lt.1
  obtain ⟨vd, vr, vo, vl, h1, h2⟩ := h
  exact ⟨vd, vr, vo, vl, AllOwn.swap (pre := [boxRow c.b 105 (egCs c vd vr vo vl e.t), keyRow vd e.due, keyRow vr e.rdy, boolRow c.vq e.qd, evRow vo e.told, fiRow vl e.log, intRow c.vm e.m]) (r := intRow c.vw e.way) (r' := intRow c.vw m') (post := c.fix) h1 (hk.mono (fun j _ e => by subst e; rfl)) ho (.inl rfl), h2.trans (hk.below (fun j e => by subst e; exact hbm) h2.size)⟩
/-- a mark of the queue -/
theorem EgAt.turnQ (h : EgAt w0 w c e) {qd' : List Bool} (ho : (boolRow c.vq qd').own w0.heap.size w') (hk : Kept (fun k => k = c.bq) w w') : EgAt w0 w' c {e with qd := qd'} := by
  obtain ⟨vd, vr, vo, vl, h1, h2⟩ := h
  have hbq := (Row.lt (h1.own (boolRow c.vq e.qd) (by simp [egRows])) (k := c.bq) rfl).1
  exact ⟨vd, vr, vo, vl, AllOwn.swap (pre := [boxRow c.b 105 (egCs c vd vr vo vl e.t), keyRow vd e.due, keyRow vr e.rdy]) (r := boolRow c.vq e.qd) (r' := boolRow c.vq qd') (post := [evRow vo e.told, fiRow vl e.log, intRow c.vm e.m, intRow c.vw e.way] ++ c.fix) h1 (hk.mono (fun j _ e => by subst e; rfl)) ho (.inl rfl), h2.trans (hk.below (fun j e => by subst e; exact hbq) h2.size)⟩
theorem EgAt.qrow (h : EgAt w0 w c e) : (boolRow c.vq e.qd).own w0.heap.size w := by
  obtain ⟨vd, vr, vo, vl, h1, h2⟩ := h
  exact h1.own (boolRow c.vq e.qd) (by simp [egRows])
end

/-! a row of truths of the call's own -/
section
variable {B b n k : Nat} {w : World} {l : List Bool}
theorem boolRow.n_eq (h : (boolRow (.slice (some ⟨b, 0, none⟩) n n) l).own B w) : n = l.length := by
  rcases h.2 with ⟨h1, _⟩ | ⟨r, cap, cur, h1, _⟩
  · cases h1
  · injection h1
theorem boolRow.lt (h : (boolRow (.slice (some ⟨b, 0, none⟩) n n) l).own B w) : B ≤ b ∧ b < w.heap.size := Row.lt h rfl
theorem boolRow.cell (h : (boolRow (.slice (some ⟨b, 0, none⟩) n n) l).own B w) {x : Bool} (hk : l[k]? = some x) : w.cell? ⟨b, k, none⟩ = some (.bool x) := by
  have hn := boolRow.n_eq h
  subst hn
  have hA : RowAt 1 w (.slice (some ⟨b, 0, none⟩) l.length l.length) l.length (l.flatMap boolL) := RowAt.of_own h
  obtain ⟨b', off, e1, hb, hc⟩ := RowAt.elem boolL_len hA hk
  injection e1 with e1
  injection e1 with e1 e2 _
  subst e1 e2
  have := hc 0 _ rfl
  simpa using this
theorem boolRow.froz (h : (boolRow (.slice (some ⟨b, 0, none⟩) n n) l).own B w) (j : Nat) : w.frozen? ⟨b, j, none⟩ = false := by
  have hn := boolRow.n_eq h
  subst hn
  exact World.ownsRow.frozenAt h j
theorem boolRow.set (h : (boolRow (.slice (some ⟨b, 0, none⟩) n n) l).own B w) (x : Bool) (hk : k < l.length) : (boolRow (.slice (some ⟨b, 0, none⟩) n n) (l.set k x)).own B (w.setCell ⟨b, k, none⟩ (.bool x)) ∧ Kept (fun j => j = b) w (w.setCell ⟨b, k, none⟩ (.bool x)) := by
  have hn := boolRow.n_eq h
  subst hn
  have hA : AllOwn B w ([] ++ boolRow (.slice (some ⟨b, 0, none⟩) l.length l.length) l :: []) := ⟨fun r hr => by rw [List.nil_append, List.mem_singleton] at hr; subst hr; exact h, by simp⟩
  obtain ⟨y, hy⟩ := at_lt hk
  have e := flat_set boolL_len l k 0 y x (.bool x) hy (by omega) rfl
  rw [Nat.mul_one, Nat.add_zero] at e
  have h2 := AllOwn.storeAt (r' := boolRow (.slice (some ⟨b, 0, none⟩) l.length l.length) (l.set k x)) hA rfl k (.bool x) rfl rfl rfl (by simp [boolRow]) e.symm
  exact ⟨h2.1.own (boolRow (.slice (some ⟨b, 0, none⟩) l.length l.length) (l.set k x)) (by simp), h2.2⟩
end

/-! the two heaps -/
section
variable {w0 w : World} {c : EC} {e : Eg}
theorem due_push (h : EgAt w0 w c e) (hh : IsHeap e.due) (hn : e.due.length ≤ 100000) (x1 x2 x3 x4 : Int) :
    Calls Try.prog 68 #[.pointer (some ⟨c.b, 4, none⟩), .agg #[.int .i64 x1, .int .i64 x2, .int .i64 x3, .int .i64 x4]] w fun r w' => r = .returned (.tuple #[]) ∧ ∃ D', D'.Perm ((x1, x2, x3, x4) :: e.due) ∧ IsHeap D' ∧ EgAt w0 w' c {e with due := D'} := by
  obtain ⟨vd, h1, h2⟩ := h.hdue hh
  refine (hpush_any _ _ _ _ _ x1 x2 x3 x4 _ h1 hn h.low.size).mono ?_
  rintro r w' ⟨rfl, v', ks', hp, hh2, ho, hk, hf⟩
  exact ⟨rfl, ks', hp, hh2, h2 v' ks' w' ho hk hf⟩
theorem rdy_push (h : EgAt w0 w c e) (hh : IsHeap e.rdy) (hn : e.rdy.length ≤ 100000) (x1 x2 x3 x4 : Int) :
    Calls Try.prog 68 #[.pointer (some ⟨c.b, 5, none⟩), .agg #[.int .i64 x1, .int .i64 x2, .int .i64 x3, .int .i64 x4]] w fun r w' => r = .returned (.tuple #[]) ∧ ∃ D', D'.Perm ((x1, x2, x3, x4) :: e.rdy) ∧ IsHeap D' ∧ EgAt w0 w' c {e with rdy := D'} := by
  obtain ⟨vd, h1, h2⟩ := h.hrdy hh
  refine (hpush_any _ _ _ _ _ x1 x2 x3 x4 _ h1 hn h.low.size).mono ?_
  rintro r w' ⟨rfl, v', ks', hp, hh2, ho, hk, hf⟩
  exact ⟨rfl, ks', hp, hh2, h2 v' ks' w' ho hk hf⟩
theorem due_pop (h : EgAt w0 w c e) (hh : IsHeap e.due) (h0 : 0 < e.due.length) (hn : e.due.length ≤ 100000) :
    Calls Try.prog 84 #[.pointer (some ⟨c.b, 4, none⟩)] w fun r w' => r = .returned (.tuple #[kv (at4 e.due 0), .bool true]) ∧ ∃ D', (at4 e.due 0 :: D').Perm e.due ∧ IsHeap D' ∧ EgAt w0 w' c {e with due := D'} := by
  obtain ⟨vd, h1, h2⟩ := h.hdue hh
  refine (hpop_some _ _ _ _ _ _ h1 h0 hn).mono ?_
  rintro r w' ⟨rfl, v', ks', hp, hh2, ho, hk, hf⟩
  exact ⟨rfl, ks', hp, hh2, h2 v' ks' w' ho hk (.inl hf)⟩
theorem rdy_pop (h : EgAt w0 w c e) (hh : IsHeap e.rdy) (h0 : 0 < e.rdy.length) (hn : e.rdy.length ≤ 100000) :
    Calls Try.prog 84 #[.pointer (some ⟨c.b, 5, none⟩)] w fun r w' => r = .returned (.tuple #[kv (at4 e.rdy 0), .bool true]) ∧ ∃ D', (at4 e.rdy 0 :: D').Perm e.rdy ∧ IsHeap D' ∧ EgAt w0 w' c {e with rdy := D'} := by
  obtain ⟨vd, h1, h2⟩ := h.hrdy hh
  refine (hpop_some _ _ _ _ _ _ h1 h0 hn).mono ?_
  rintro r w' ⟨rfl, v', ks', hp, hh2, ho, hk, hf⟩
  exact ⟨rfl, ks', hp, hh2, h2 v' ks' w' ho hk (.inl hf)⟩
theorem due_top (h : EgAt w0 w c e) (hh : IsHeap e.due) (h0 : 0 < e.due.length) :
    Calls Try.prog 67 #[.pointer (some ⟨c.b, 4, none⟩)] w fun r w' => r = .returned (.tuple #[kv (at4 e.due 0), .bool true]) ∧ Below w.heap.size w w' := by
  obtain ⟨vd, h1, h2⟩ := h.hdue hh
  obtain ⟨x1, x2, x3, x4, hx⟩ : ∃ x1 x2 x3 x4, at4 e.due 0 = (x1, x2, x3, x4) := ⟨_, _, _, _, rfl⟩
  rw [hx]
  exact htop_some _ _ _ _ _ _ h1 h0 x1 x2 x3 x4 hx
theorem rdy_top (h : EgAt w0 w c e) (hh : IsHeap e.rdy) (h0 : 0 < e.rdy.length) :
    Calls Try.prog 67 #[.pointer (some ⟨c.b, 5, none⟩)] w fun r w' => r = .returned (.tuple #[kv (at4 e.rdy 0), .bool true]) ∧ Below w.heap.size w w' := by
  obtain ⟨vd, h1, h2⟩ := h.hrdy hh
  obtain ⟨x1, x2, x3, x4, hx⟩ : ∃ x1 x2 x3 x4, at4 e.rdy 0 = (x1, x2, x3, x4) := ⟨_, _, _, _, rfl⟩
  rw [hx]
  exact htop_some _ _ _ _ _ _ h1 h0 x1 x2 x3 x4 hx
theorem due_top0 (h : EgAt w0 w c e) (hh : IsHeap e.due) (h0 : e.due = []) :
    Calls Try.prog 67 #[.pointer (some ⟨c.b, 4, none⟩)] w fun r w' => r = .returned (.tuple #[zeroKey, .bool false]) ∧ Below w.heap.size w w' := by
  obtain ⟨vd, h1, h2⟩ := h.hdue hh
  rw [h0] at h1
  exact htop_empty _ _ _ _ _ h1
theorem rdy_top0 (h : EgAt w0 w c e) (hh : IsHeap e.rdy) (h0 : e.rdy = []) :
    Calls Try.prog 67 #[.pointer (some ⟨c.b, 5, none⟩)] w fun r w' => r = .returned (.tuple #[zeroKey, .bool false]) ∧ Below w.heap.size w w' := by
  obtain ⟨vd, h1, h2⟩ := h.hrdy hh
  rw [h0] at h1
  exact htop_empty _ _ _ _ _ h1
end
end Go.Proofs.Ytpbbdnicafifpaa

/-! ## EgB -/
namespace Go.Proofs.Ytpbbdnicafifpaa
open Go.RowKit
set_option linter.unusedVariables false

/-- what stays true of an engine's own -/
structure EOk (c : EC) : Prop where
  l : c.l.map (·.1) = c.n.trans
  nok : NOk c.n
  nq : c.nq = c.n.trans.length
  nm : c.nm = c.n.places.length
  nw : c.nw = c.n.places.length

theorem qB_at {l : List Bool} {i : Nat} {x : Bool} (h : l[i]? = some x) : qB l i = x := by unfold qB; simp [List.getD, h]
theorem set_same {l : List Bool} {i : Nat} (h : l[i]? = some true) : l.set i true = l := by
  apply List.ext_getElem?
  intro k
  rw [List.getElem?_set]
  split
  · rename_i e
    subst e
    rw [h, if_pos (lt_at h)]
  · rfl

set_option maxRecDepth 100000 in
set_option maxHeartbeats 4000000 in
theorem queue_any {w0 w : World} {c : EC} {e : Eg} (hc : EOk c) (h : EgAt w0 w c e) {i : Nat} (hi : i < c.n.trans.length) (hR : RQ c.n.trans e.rdy e.qd) :
    Calls Try.prog 60 #[.pointer (some ⟨c.b, 0, none⟩), .int .i64 i] w fun r w' => r = .returned (.tuple #[]) ∧ ∃ R', RQ c.n.trans R' (e.qd.set i true) ∧ EgAt w0 w' c {e with rdy := R', qd := e.qd.set i true} := by
  have hql := hR.len
  obtain ⟨x, hx⟩ := at_lt (l := e.qd) (k := i) (by omega)
  have hq := h.qrow
  have q0 := boxRow.cell (h.box.choose_spec.choose_spec.choose_spec.choose_spec) (j := 6) rfl
  have c0 := boolRow.cell (show (boolRow (.slice (some ⟨c.bq, 0, none⟩) c.nq c.nq) e.qd).own w0.heap.size w from hq) hx
  have f0 := boolRow.froz (show (boolRow (.slice (some ⟨c.bq, 0, none⟩) c.nq c.nq) e.qd).own w0.heap.size w from hq) i
  have l0 := (boolRow.lt (show (boolRow (.slice (some ⟨c.bq, 0, none⟩) c.nq c.nq) e.qd).own w0.heap.size w from hq)).2
  have hbl := h.cells.2.2.2.2.2.2.2.2.1
  have hnq := hc.nq
  have hin : i < c.nq := by omega
  have hii : (i : Int) < (c.nq : Int) := by omega
  simp only [EC.vq] at q0
  cases x with
  | true =>
    have HE := Lib.hid h
    have HR := Lib.hid hR
    have Hx := Lib.hid hx
    clear h hR hq hx f0 hc
    go_enter Try.func60, Try.ntmps60
    go_wp2
    go_end0
    refine ⟨rfl, e.rdy, ?_, ?_⟩
    · rw [set_same Hx.out]; exact HR.out
    · rw [set_same Hx.out]; exact HE.out
  | false =>
    have hst := boolRow.set (k := i) (show (boolRow (.slice (some ⟨c.bq, 0, none⟩) c.nq c.nq) e.qd).own w0.heap.size w from hq) true (by omega)
    have h1 := h.turnQ (qd' := e.qd.set i true) hst.1 hst.2
    have H1 := Lib.hid h1
    have HR := Lib.hid hR
    have Hx := Lib.hid hx
    have HC := Lib.hid hc
    clear h hR hq hx hst h1 hc
    go_enter Try.func60, Try.ntmps60
    go_upto_region 2 with (fail)
    clear q0 c0 f0 l0 hbl
    revert H1
    generalize (w.setCell ⟨c.bq, i, none⟩ (.bool true)) = V
    intro H1
    have h1 := H1.out
    have hnet := h1.net HC.out.l
    obtain ⟨a1, np, c1, a2, nt, c2, e1, e2, hnp, hnt⟩ := hnet.form2
    have k1 := h1.cells.2.1
    have hbl := h1.cells.2.2.2.2.2.2.2.2.1
    rw [e2] at k1
    obtain ⟨t, ht⟩ := at_lt (l := c.n.trans) (k := i) hi
    obtain ⟨_, l, hl, htr⟩ := hnet
    rw [e2] at htr
    obtain ⟨g, off, b1, d1, b2, d2, b3, d3, rfl, hgw, z0, z1, z2, z3, z4, z5, _, _, _⟩ := htr.at_ (i := i) (t := t) (by rw [hl]; exact ht)
    have hint : (i : Int) < (nt : Int) := by omega
    have hint2 : i < nt := by omega
    have hd := h1.go (Below.refl _ _).drew
    have HP := Lib.hid (rdy_push hd HR.out.heap (by have := HR.out.size; have := HC.out.nok.tr; show e.rdy.length ≤ 100000; omega) 0 t.prio (i : Int) 0)
    have hpr : (c.n.trans.getD i Tr.none).prio = t.prio := by simp [List.getD, ht]
    have Hpr := Lib.hid hpr
    obtain ⟨pr, hprr⟩ : ∃ q, q = t.prio := ⟨_, rfl⟩
    rw [← hprr] at z2 HP Hpr
    clear h1 hl htr ht hd e1 e2 z0 z1 z3 z4 z5 hnp hnt hpr hprr H1
    go_region_law (first | (go_simp; go_at_call 68; refine HP.out.mono ?_; rintro r w4 ⟨rfl, h4⟩; have H4 := Lib.hid h4; clear h4))
    all_goals
      clear k1 hbl z2 hgw HP
      go_wp2
      go_end0
      obtain ⟨D, hD1, hD2, hD3⟩ := H4.out
      refine ⟨rfl, D, HR.out.on hi (qB_at Hx.out) ?_ hD2, hD3⟩
      have hk : keyOf c.n.trans i = (0, pr, (i : Int), 0) := by unfold keyOf; rw [Hpr.out]
      rw [hk]
      exact hD1

/-- all that look at a place are queued -/
def wakeQ (es : List Int) (qd : List Bool) : List Bool := es.foldl (fun q i => q.set i.toNat true) qd
theorem wakeQ_len (es : List Int) : ∀ qd : List Bool, (wakeQ es qd).length = qd.length := by
  induction es with
  | nil => intro qd; rfl
  | cons i es ih => intro qd; unfold wakeQ at *; rw [List.foldl_cons, ih]; simp
theorem wakeQ_take {es : List Int} {qd : List Bool} {k : Nat} {i : Int} (h : es[k]? = some i) : wakeQ (es.take (k + 1)) qd = (wakeQ (es.take k) qd).set i.toNat true := by
  unfold wakeQ; rw [take_at h, List.foldl_append]; rfl
theorem wakeQ_old (es : List Int) : ∀ (qd : List Bool) (i : Nat), (∀ j ∈ es, j.toNat < qd.length) → qB qd i = true → qB (wakeQ es qd) i = true := by
  induction es with
  | nil => intro qd i _ h; exact h
  | cons j es ih =>
    intro qd i hl h
    unfold wakeQ at ih ⊢
    rw [List.foldl_cons]
    refine ih _ _ (fun x hx => by rw [List.length_set]; exact hl x (by simp [hx])) ?_
    rw [qB_set (hl j (by simp))]
    split
    · rfl
    · exact h
theorem wakeQ_new (es : List Int) : ∀ (qd : List Bool) (i : Nat), (∀ j ∈ es, j.toNat < qd.length) → (i : Int) ∈ es → qB (wakeQ es qd) i = true := by
  induction es with
  | nil => intro qd i _ h; cases h
  | cons j es ih =>
    intro qd i hl h
    unfold wakeQ at ih ⊢
    rw [List.foldl_cons]
    rcases List.mem_cons.1 h with e | e
    · have := wakeQ_old es (qd.set j.toNat true) i (fun x hx => by rw [List.length_set]; exact hl x (by simp [hx])) (by rw [qB_set (hl j (by simp)), if_pos (by omega)])
      unfold wakeQ at this
      exact this
    · exact ih _ _ (fun x hx => by rw [List.length_set]; exact hl x (by simp [hx])) e
theorem wakeQ_own (es : List Int) : ∀ (qd : List Bool) (i : Nat), (∀ j ∈ es, j.toNat < qd.length) → qB (wakeQ es qd) i = true → qB qd i = true ∨ ∃ j ∈ es, j.toNat = i := by
  induction es with
  | nil => intro qd i _ h; exact .inl h
  | cons j es ih =>
    intro qd i hl h
    unfold wakeQ at ih h
    rw [List.foldl_cons] at h
    rcases ih _ _ (fun x hx => by rw [List.length_set]; exact hl x (by simp [hx])) h with h1 | ⟨x, hx, e⟩
    · rw [qB_set (hl j (by simp))] at h1
      by_cases e : i = j.toNat
      · exact .inr ⟨j, by simp, e.symm⟩
      · rw [if_neg e] at h1; exact .inl h1
    · exact .inr ⟨x, by simp [hx], e⟩

/-- the eyes of a place, as they lie -/
theorem EgAt.eye {w0 w : World} {c : EC} {e : Eg} (h : EgAt w0 w c e) {p : Nat} {v : Value} {es : List Int} (hp : c.es[p]? = some (v, es)) :
    ∃ g off cap a n d, c.ve = .slice (some ⟨g, off, none⟩) c.es.length cap ∧ g < w.heap.size ∧ w.cell? ⟨g, off + p, none⟩ = some v ∧ v = .slice a n d ∧ n = es.length ∧ IntsAt w v es := by
  have hv : (slsRow c.ve (c.es.map (·.1))).own w0.heap.size w := h.fixed (by unfold EC.fix; simp)
  have hi : (intRow v es).own w0.heap.size w := h.fixed (by
    unfold EC.fix
    refine List.mem_cons_of_mem _ (List.mem_cons_of_mem _ (List.mem_append_left _ (List.mem_map.2 ⟨(v, es), List.mem_of_getElem? hp, rfl⟩))))
  have hA : RowAt 1 w c.ve (c.es.map (·.1)).length ((c.es.map (·.1)).flatMap slL) := RowAt.of_own hv
  obtain ⟨a, cap, e1⟩ := RowAt.len hA
  rw [e1] at hA
  obtain ⟨g, off, e2, hg, hc⟩ := RowAt.elem (f := slL) (k := 1) (fun _ => rfl) hA (i := p) (x := v) (by rw [List.getElem?_map, hp]; rfl)
  have hO : OwnI w0.heap.size w v es := hi
  obtain ⟨a2, c2, e3⟩ := OwnI.len hO
  refine ⟨g, off, cap, a2, es.length, c2, by rw [e1, e2, List.length_map], hg, by have := hc 0 _ rfl; simpa using this, e3, rfl, OwnI.at_ hO⟩

set_option maxRecDepth 100000 in
set_option maxHeartbeats 4000000 in
theorem wake_any {w0 w : World} {c : EC} {e : Eg} (hc : EOk c) (h : EgAt w0 w c e) {p : Nat} {v : Value} {es : List Int} (hp : c.es[p]? = some (v, es)) (hes : ∀ j ∈ es, 0 ≤ j ∧ j < (c.n.trans.length : Int)) (hR : RQ c.n.trans e.rdy e.qd) :
    Calls Try.prog 88 #[.pointer (some ⟨c.b, 0, none⟩), .int .i64 p] w fun r w' => r = .returned (.tuple #[]) ∧ ∃ R', RQ c.n.trans R' (wakeQ es e.qd) ∧ EgAt w0 w' c {e with rdy := R', qd := wakeQ es e.qd} := by
  obtain ⟨g, off, cap, a, n, d, eve, hg, hcell, ev, hn, hI⟩ := h.eye hp
  have k3 := h.cells.2.2.2.1
  have hbl := h.cells.2.2.2.2.2.2.2.2.1
  have hpl : p < c.es.length := lt_at hp
  have hpi : (p : Int) < (c.es.length : Int) := by omega
  rw [eve] at k3
  rw [ev] at hcell
  have hmax : n ≤ 9223372036854775807 := by have := RowAt.max hI; rw [hn]; exact this
  have HC := Lib.hid hc
  have HE := Lib.hid h
  have Hp := Lib.hid hp
  have Hes := Lib.hid hes
  have HR := Lib.hid hR
  have Hn := Lib.hid hn
  have Hev := Lib.hid ev
  obtain ⟨el, hel⟩ : ∃ k, k = c.es.length := ⟨_, rfl⟩
  rw [← hel] at k3 hpl hpi
  clear hc h hp hes hR hI eve hn ev hel
  go_enter Try.func88, Try.ntmps88
  go_wp2
  clear k3 hcell hbl hg
  go_loopw [14] (fun i wr => ∃ (k : Nat) (R : List Key4), k ≤ n ∧ i = .int .i64 k ∧ RQ c.n.trans R (wakeQ (es.take k) e.qd) ∧ EgAt w0 wr c {e with rdy := R, qd := wakeQ (es.take k) e.qd}) (fun i _ => n - (intOf i).toNat)
  case atStart => exact ⟨0, e.rdy, by omega, rfl, HR.out, HE.out⟩
  case round =>
    rename World => v1
    obtain ⟨k, R, hk, rfl, hr, he⟩ := hrel
    by_cases hlt : k < n
    · have hlti : (k : Int) < (n : Int) := by omega
      obtain ⟨j, hj⟩ := at_lt (l := es) (k := k) (by rw [← Hn.out]; exact hlt)
      have hj0 := Hes.out j (List.mem_of_getElem? hj)
      obtain ⟨jn, rfl⟩ : ∃ m : Nat, j = m := ⟨j.toNat, by omega⟩
      obtain ⟨-, -, -, -, -, -, -, -, -, -, -, hI⟩ := he.eye Hp.out
      rw [Hev.out] at hI
      obtain ⟨g1, o1, rfl, hg1, e0⟩ := IntsAt.at_ hI hj
      have hw := wakeQ_take (qd := e.qd) hj
      rw [Int.toNat_natCast] at hw
      have HQ := Lib.hid (queue_any HC.out he (i := jn) (by omega) hr)
      have Hw := Lib.hid hw
      clear hr he hj hI hw
      go_wp2_with fail
      refine HQ.out.mono ?_
      rintro r w4 ⟨rfl, R', h4, h5⟩
      have H4 := Lib.hid h4
      have H5 := Lib.hid h5
      clear h4 h5 e0 hg1 HQ
      go_wp2
      go_roundw
      case rel => exact ⟨k + 1, R', by omega, by go_num, by rw [Hw.out]; exact H4.out, by rw [Hw.out]; exact H5.out⟩
      case measure => simp [intOf]; omega
    · have hge : ¬ (k : Int) < (n : Int) := by omega
      rw [List.take_of_length_le (by rw [← Hn.out]; omega)] at hr he
      have Hr := Lib.hid hr
      have He := Lib.hid he
      clear hr he
      go_wp2
      go_end0
      exact ⟨rfl, R, Hr.out, He.out⟩
end Go.Proofs.Ytpbbdnicafifpaa

/-! ## EgC -/
namespace Go.Proofs.Ytpbbdnicafifpaa
open Go.RowKit
set_option linter.unusedVariables false

set_option maxRecDepth 100000 in
set_option maxHeartbeats 4000000 in
theorem eput_any {w0 w : World} {c : EC} {e : Eg} (hc : EOk c) (h : EgAt w0 w c e) {p : Nat} {v : Value} {es : List Int} (hp : c.es[p]? = some (v, es)) (hes : ∀ j ∈ es, 0 ≤ j ∧ j < (c.n.trans.length : Int)) (hR : RQ c.n.trans e.rdy e.qd) (hm : e.m.length = c.n.places.length)
    {z n : Int} (hz : e.m[p]? = some z) (hz0 : 0 ≤ z) (hn : 1 ≤ n) (hzn : z + n ≤ 1099511627776) :
    Calls Try.prog 85 #[.pointer (some ⟨c.b, 0, none⟩), .int .i64 p, .int .i64 n] w fun r w' => r = .returned (.bool true) ∧ ∃ R', RQ c.n.trans R' (wakeQ es e.qd) ∧ EgAt w0 w' c {e with rdy := R', qd := wakeQ es e.qd, m := e.m.set p (z + n)} := by
  have HW := Lib.hid (wake_any hc h hp hes hR)
  have HC := Lib.hid hc
  have Hm := Lib.hid hm
  have Hz := Lib.hid hz
  clear h hp hes hR hc hm hz
  go_enter Try.func85, Try.ntmps85
  go_wp2_with fail
  refine HW.out.mono ?_
  rintro r w1 ⟨rfl, R', h1, h2⟩
  have k9 := h2.cells.2.2.2.2.2.1
  have hbl := h2.cells.2.2.2.2.2.2.2.2.1
  simp only [EC.vm] at k9
  have hM := h2.ints
  have HP := Lib.hid (mput_any (n := n) (p := p) (z := z) (by rw [HC.out.nm]; exact Hm.out.symm) hM Hz.out (by omega) (by omega) (by omega) true (by simp [hzn]))
  have H1 := Lib.hid h1
  have H2 := Lib.hid h2
  clear h1 h2 hM HW
  go_wp2_with fail
  refine HP.out.mono ?_
  rintro r w2 ⟨rfl, ho, hk⟩
  have H3 := Lib.hid (H2.out.turnM ho hk)
  clear ho hk k9 hbl HP
  go_wp2
  go_ret
  exact ⟨rfl, R', H1.out, H3.out⟩

/-- one more row beside the engine's -/
def EC.plus (c : EC) (r : Row) : EC := { c with more := c.more ++ [r] }
section
variable {w0 w w' : World} {c : EC} {e : Eg} {r : Row}
theorem EC.plus_fix (c : EC) (r : Row) : (c.plus r).fix = c.fix ++ [r] := by
  unfold EC.fix EC.plus
  simp only [List.cons_append, List.append_assoc]
theorem EgAt.plus (h : EgAt w0 w c e) (hb : Below w.heap.size w w') (hr : r.own w0.heap.size w') (hf : ∀ k, r.v.ownBlock = some k → w.heap.size ≤ k) : EgAt w0 w' (c.plus r) e := by
  obtain ⟨vd, vr, vo, vl, h1, h2⟩ := h
  have h3 := h1.add hb hr hf
  rw [List.append_assoc, ← EC.plus_fix] at h3
  exact ⟨vd, vr, vo, vl, h3, h2.trans (hb.mono h2.size)⟩
theorem EgAt.minus (h : EgAt w0 w (c.plus r) e) : EgAt w0 w c e := by
  obtain ⟨vd, vr, vo, vl, h1, h2⟩ := h
  rw [EC.plus_fix, ← List.append_assoc] at h1
  exact ⟨vd, vr, vo, vl, h1.sub (List.sublist_append_left _ _), h2⟩
theorem EgAt.beside (h : EgAt w0 w (c.plus r) e) : r.own w0.heap.size w := h.fixed (by rw [EC.plus_fix]; simp)
theorem EgAt.plusBox (h : EgAt w0 w c e) (cs : Array Value) (ty : TypeId) : EgAt w0 (w.alloc (.cells cs ty)) (c.plus (boxRow w.heap.size ty cs.toList)) e :=
  h.plus ((Below.refl _ _).alloc (Nat.le_refl _) _) (boxRow.new _ w ty cs h.low.size) (fun k e => by injection e with e; subst e; exact Nat.le_refl _)
end

set_option maxRecDepth 100000 in
set_option maxHeartbeats 4000000 in
theorem ebest_any {w0 w : World} {c : EC} {e : Eg} {ts' : List Tr} {mine : Nat → Bool} {away : Int → Bool} (hc : EOk c) (h : EgAt w0 w c e) (hM : Masked c.n.trans ts' mine away) (hR : RQ c.n.trans e.rdy e.qd) (hC : Cov c.n.trans mine e.m e.qd) (hm : e.m.length = c.n.places.length) (q : Int) (hq : q = bestTo e.m ts' ts'.length) :
    Calls Try.prog 62 #[.pointer (some ⟨c.b, 0, none⟩)] w fun r w' => r = .returned (.int .i64 q) ∧ ∃ R qd, RQ c.n.trans R qd ∧ Cov c.n.trans mine e.m qd ∧ EgAt w0 w' c {e with rdy := R, qd := qd} ∧ (0 ≤ q → qB qd q.toNat = true ∧ mine q.toNat = true) := by
  have HC := Lib.hid hc
  have HE := Lib.hid h
  have HM := Lib.hid hM
  have HR := Lib.hid hR
  have HCv := Lib.hid hC
  have Hm := Lib.hid hm
  have HQ := Lib.hid hq
  clear hc h hM hR hC hm hq
  go_enter Try.func62, Try.ntmps62
  go_wp2
  go_loopg [2] (e.rdy.length + 1) (fun k s2 wr => ∃ R qd, RQ c.n.trans R qd ∧ Cov c.n.trans mine e.m qd ∧ EgAt w0 wr c {e with rdy := R, qd := qd} ∧ R.length + 1 ≤ k)
  case atStart => exact ⟨e.rdy, e.qd, HR.out, HCv.out, HE.out, by omega⟩
  case round =>
    rename World => v1
    obtain ⟨R, qd, hr, hcv, he, hk⟩ := hrel
    have hbl := he.cells.2.2.2.2.2.2.2.2.1
    by_cases h0 : R.length = 0
    · have hnil : R = [] := List.eq_nil_of_length_eq_zero h0
      have HT := Lib.hid (rdy_top0 he hr.heap hnil)
      have hb := best_empty HM.out hcv (hr.none h0)
      obtain rfl : q = -1 := by rw [HQ.out]; exact hb
      have He := Lib.hid he
      have Hr := Lib.hid hr
      have Hcv := Lib.hid hcv
      clear hr hcv he hnil hb
      go_wp2_with fail
      refine HT.out.mono ?_
      rintro r w2 ⟨rfl, hb2⟩
      have H2 := Lib.hid (He.out.go hb2)
      have H3 := Lib.hid (H2.out.go ((Below.refl _ w2).alloc (Nat.le_refl _) (.cells #[.int .i64 0, .int .i64 0, .int .i64 0, .int .i64 0] 112)))
      clear hb2 HT hbl
      go_wp2
      go_ret
      exact ⟨rfl, R, qd, Hr.out, Hcv.out, H3.out, fun h => by omega⟩
    · obtain ⟨k, rfl⟩ : ∃ m, gk = m + 1 := ⟨gk - 1, by omega⟩
      obtain ⟨i, hi, hqi, htop, hfst⟩ := hr.top (by omega)
      obtain ⟨x, hx⟩ := at_lt (l := c.n.trans) (k := i) hi
      have HT0 := rdy_top he hr.heap (show 0 < R.length by omega)
      have hkey : kv (at4 R 0) = .agg #[.int .i64 0, .int .i64 x.prio, .int .i64 i, .int .i64 0] := by rw [htop]; unfold keyOf; simp [List.getD, hx]
      rw [show at4 ({e with rdy := R, qd := qd} : Eg).rdy 0 = at4 R 0 from rfl, hkey] at HT0
      have HT := Lib.hid HT0
      have He := Lib.hid he
      have Hr := Lib.hid hr
      have Hcv := Lib.hid hcv
      have Hx := Lib.hid hx
      have Hqi := Lib.hid hqi
      have Htop := Lib.hid htop
      have Hfst := Lib.hid hfst
      obtain ⟨pr, hpr⟩ : ∃ q, q = x.prio := ⟨_, rfl⟩
      rw [← hpr] at HT
      clear hr hcv he hx hqi htop hfst HT0 hkey hpr
      go_wp2_with fail
      refine HT.out.mono ?_
      rintro r w2 ⟨rfl, hb2⟩
      have H2 := Lib.hid (He.out.go hb2)
      clear hb2 HT hbl He
      go_upto_region 4 with (fail)
      have hbox : Below w2.heap.size w2 (w2.alloc (.cells #[.int .i64 0, .int .i64 pr, .int .i64 i, .int .i64 0] 112)) := (Below.refl _ _).alloc (Nat.le_refl _) _
      have h3 := H2.out.go hbox
      have h3p := H2.out.plusBox #[.int .i64 0, .int .i64 pr, .int .i64 i, .int .i64 0] 112
      have t2 : (w2.alloc (.cells #[.int .i64 0, .int .i64 pr, .int .i64 i, .int .i64 0] 112)).cell? ⟨w2.heap.size, 2, none⟩ = some (.int .i64 i) := by go_simp
      have tl : w2.heap.size < (w2.alloc (.cells #[.int .i64 0, .int .i64 pr, .int .i64 i, .int .i64 0] 112)).heap.size := by simp
      have hcb : c.b ≠ w2.heap.size := by have := H2.out.cells.2.2.2.2.2.2.2.2.1; omega
      obtain ⟨kb, hkb⟩ : ∃ q, q = w2.heap.size := ⟨_, rfl⟩
      rw [← hkb] at t2 tl hcb h3p ⊢
      have HH := And.intro h3 (And.intro t2 (And.intro tl h3p))
      clear h3 t2 tl h3p hbox hkb H2
      revert HH
      generalize (w2.alloc (.cells #[.int .i64 0, .int .i64 pr, .int .i64 i, .int .i64 0] 112)) = V
      rintro ⟨h3, t2, tl, h3p⟩
      have Hdp := Lib.hid (h3p.go (Below.refl _ _).drew)
      clear h3p
      have hd := h3.go (Below.refl _ _).drew
      have hnet := h3.net HC.out.l
      obtain ⟨a1, np, c1, a2, nt, c2, e1, e2, hnp, hnt⟩ := hnet.form2
      have k1 := h3.cells.2.1
      have k6 := h3.cells.2.2.2.2.1
      have k9 := h3.cells.2.2.2.2.2.1
      have hbl := h3.cells.2.2.2.2.2.2.2.2.1
      simp only [EC.vm] at k9
      simp only [EC.vq] at k6
      rw [e2] at k1
      obtain ⟨_, l, hl, htr⟩ := hnet
      rw [e2] at htr
      obtain ⟨g, off, b1, d1, b2, d2, b3, d3, rfl, hgw, z0, z1, z2, z3, z4, z5, hA1, hA2, _⟩ := htr.at_ (i := i) (t := x) (by rw [hl]; exact Hx.out)
      have hint : (i : Int) < (nt : Int) := by omega
      have hint2 : i < nt := by omega
      have hxm := HC.out.nok.at_ Hx.out
      have hbD : Below V.heap.size V V.drew := (Below.refl _ _).drew
      have hMi := OwnI.at_ (hd.ints)
      have hfit := HC.out.nok.fits Hm.out x hxm
      obtain ⟨qm, hqm⟩ : ∃ qm, qm = mayB e.m x.inn x.nt := ⟨_, rfl⟩
      have hnm : c.nm = e.m.length := by rw [HC.out.nm]; exact Hm.out.symm
      have HMay := Lib.hid (may_any (w := V.drew) (s := x.name) (d := x.delay) (p := x.prio) (a3 := b3) (n3 := x.out.length) (c3 := d3) rfl rfl hnm (ArcsAt.below hA1 hbD) (ArcsAt.below hA2 hbD) hMi hfit.1 hfit.2 qm hqm)
      have Hqm := Lib.hid hqm
      have Hd := Lib.hid hd
      obtain ⟨n1, hn1⟩ : ∃ k, k = x.inn.length := ⟨_, rfl⟩
      obtain ⟨n2, hn2⟩ : ∃ k, k = x.nt.length := ⟨_, rfl⟩
      obtain ⟨n3, hn3⟩ : ∃ k, k = x.out.length := ⟨_, rfl⟩
      rw [← hn1, ← hn2, ← hn3] at HMay
      rw [← hn1] at z3
      rw [← hn2] at z4
      rw [← hn3] at z5
      have Hkb : Hid (V.drew.cell? ⟨kb, 2, none⟩ = some (.int .i64 i) ∧ kb < V.drew.heap.size) := Lib.hid ⟨t2, tl⟩
      have hii : i < c.nq := by rw [HC.out.nq]; exact hi
      have hiii : (i : Int) < (c.nq : Int) := by omega
      clear h3 hd hl htr e1 e2 hnp hnt hA1 hA2 hMi hfit hqm hnm hn1 hn2 hn3 hbD
      go_region_law (first | (go_simp; go_at_call 86; refine HMay.out.mono ?_; rintro r w4 ⟨rfl, hb4⟩; have H4 := Lib.hid (Hd.out.go hb4); have H4p := Lib.hid (Hdp.out.go hb4); have k4 := Lib.hid (And.intro ((below_cells hb4 kb 2 Hkb.out.2).trans Hkb.out.1) (Nat.lt_of_lt_of_le Hkb.out.2 hb4.size)); clear hb4))
      all_goals
        clear k1 k6 k9 hbl z0 z1 z2 z3 z4 z5 hgw t2 tl HMay Hd Hdp Hkb
        obtain ⟨t2, tl⟩ := k4.out
        cases qm with
        | true =>
          have hmay : mayT e.m c.n.trans i = true := by unfold mayT; rw [Hx.out]; exact Hqm.out.symm
          have hb := best_top HM.out Hr.out Hcv.out hi Hqi.out Hfst.out hmay
          obtain rfl : q = (i : Int) := by rw [HQ.out]; exact hb
          have ho := Hcv.out.own i Hqi.out
          have Ho := Lib.hid ho
          clear hmay hb ho
          go_wp2
          go_ret
          exact ⟨rfl, R, qd, Hr.out, Hcv.out, H4.out, by first | exact ⟨Hqi.out, Ho.out⟩ | exact fun _ => ⟨Hqi.out, Ho.out⟩⟩
        | false =>
          have hmay : mayT e.m c.n.trans i = false := by unfold mayT; rw [Hx.out]; exact Hqm.out.symm
          have hcv2 := Hcv.out.off (i := i) (by rw [Hr.out.len]; exact hi) hmay
          have Hcv2 := Lib.hid hcv2
          have HPop0 := rdy_pop H4p.out Hr.out.heap (show 0 < R.length by omega) (by have := Hr.out.size; have := HC.out.nok.tr; show R.length ≤ 100000; omega)
          have HPop : Hid (Calls Try.prog 84 #[.pointer (some ⟨c.b, 5, none⟩)] w4 fun r w' => r = .returned (.tuple #[kv (at4 R 0), .bool true]) ∧ ∃ D', (at4 R 0 :: D').Perm R ∧ IsHeap D' ∧ EgAt w0 w' (c.plus (boxRow kb 112 [.int .i64 0, .int .i64 pr, .int .i64 i, .int .i64 0])) {e with rdy := D', qd := qd}) := Lib.hid HPop0
          have hbl := H4.out.cells.2.2.2.2.2.2.2.2.1
          clear hmay hcv2 HPop0 H4p
          go_wp2_with fail
          refine HPop.out.mono ?_
          rintro r w5 ⟨rfl, D, hD1, hD2, h5p⟩
          have h5 := h5p.minus
          have hkbx := h5p.beside
          have x2 := boxRow.cell hkbx (j := 2) rfl
          have xl := (boxRow.lt hkbx).2
          have k6 := h5.cells.2.2.2.2.1
          simp only [EC.vq] at k6
          have hqr := h5.qrow
          have f0 := boolRow.froz (show (boolRow (.slice (some ⟨c.bq, 0, none⟩) c.nq c.nq) qd).own w0.heap.size w5 from hqr) i
          have l0 := (boolRow.lt (show (boolRow (.slice (some ⟨c.bq, 0, none⟩) c.nq c.nq) qd).own w0.heap.size w5 from hqr)).2
          obtain ⟨y, hy⟩ := at_lt (l := qd) (k := i) (by rw [Hr.out.len]; exact hi)
          have c0 := boolRow.cell (show (boolRow (.slice (some ⟨c.bq, 0, none⟩) c.nq c.nq) qd).own w0.heap.size w5 from hqr) hy
          have hst := boolRow.set (k := i) (show (boolRow (.slice (some ⟨c.bq, 0, none⟩) c.nq c.nq) qd).own w0.heap.size w5 from hqr) false (by rw [Hr.out.len]; exact hi)
          have h6 := h5.turnQ (qd' := qd.set i false) hst.1 hst.2
          have H6 := Lib.hid (h6.go (Below.refl _ _).drew)
          have hr2 := Hr.out.off (R' := D) hi Hqi.out (by rw [← Htop.out]; exact hD1) hD2
          have Hr2 := Lib.hid hr2
          have hlen : D.length + 1 = R.length := by have := hD1.length_eq; simpa using this
          have Hlen := Lib.hid hlen
          have hbl5 := h5.cells.2.2.2.2.2.2.2.2.1
          clear hD1 hD2 h5p h5 hkbx hqr hy hst h6 hr2 hlen t2 tl hbl HPop
          go_wp2
          go_region
          go_wp2
          go_roundg k
          case measure => omega
          case rel => exact ⟨D, qd.set i false, Hr2.out, Hcv2.out, H6.out, by have := Hlen.out; omega⟩
end Go.Proofs.Ytpbbdnicafifpaa

/-! ## EgD -/
namespace Go.Proofs.Ytpbbdnicafifpaa
open Go.RowKit
set_option linter.unusedVariables false

section
variable {w0 w w' : World} {c : EC} {e : Eg}
theorem EgAt.logs (h : EgAt w0 w c e) : ∃ a cap, w.cell? ⟨c.b, 8, none⟩ = some (.slice a e.log.length cap) ∧ OwnF w0.heap.size w (.slice a e.log.length cap) e.log := by
  obtain ⟨vd, vr, vo, vl, h1, h2⟩ := h
  have hB := h1.own (boxRow c.b 105 (egCs c vd vr vo vl e.t)) (by simp [egRows])
  have hF : OwnF w0.heap.size w vl e.log := h1.own (fiRow vl e.log) (by simp [egRows])
  obtain ⟨a, cap, rfl⟩ := own_form hF
  exact ⟨a, cap, boxRow.cell hB rfl, hF⟩
theorem EgAt.tolds (h : EgAt w0 w c e) : ∃ a cap, w.cell? ⟨c.b, 7, none⟩ = some (.slice a e.told.length cap) ∧ OwnE w0.heap.size w (.slice a e.told.length cap) e.told := by
  obtain ⟨vd, vr, vo, vl, h1, h2⟩ := h
  have hB := h1.own (boxRow c.b 105 (egCs c vd vr vo vl e.t)) (by simp [egRows])
  have hF : OwnE w0.heap.size w vo e.told := h1.own (evRow vo e.told) (by simp [egRows])
  obtain ⟨a, cap, rfl⟩ := own_form hF
  exact ⟨a, cap, boxRow.cell hB rfl, hF⟩
/-- one more firing -/
theorem EgAt.pushF (h : EgAt w0 w c e) (hl : e.log.length ≤ 1000000) (ty : TypeId) (x y : Int) {a : Option Addr} {cap : Nat} (hc : w.cell? ⟨c.b, 8, none⟩ = some (.slice a e.log.length cap)) :
    ∃ a' n' c' w', (Builtin.append_ #[49, 49] ty #[.slice a e.log.length cap, .slice (some ⟨w.heap.size, 0, none⟩) 1 1]).run Try.prog (w.alloc (.cells #[.int .i64 x, .int .i64 y] 55)) = .ok (.slice a' n' c') w' ∧
      EgAt w0 (w'.setCell ⟨c.b, 8, none⟩ (.slice a' n' c')) c {e with log := e.log ++ [(x, y)]} ∧ w'.cell? ⟨c.b, 8, none⟩ = some (.slice a e.log.length cap) ∧ w'.frozen? ⟨c.b, 8, none⟩ = false ∧ c.b < w'.heap.size := by
  have hb := h.cells.2.2.2.2.2.2.2.2.2
  obtain ⟨vd, vr, vo, vl, h1, h2⟩ := h
  have hB := h1.own (boxRow c.b 105 (egCs c vd vr vo vl e.t)) (by simp [egRows])
  have hF : OwnF w0.heap.size w vl e.log := h1.own (fiRow vl e.log) (by simp [egRows])
  have e1 : w.cell? ⟨c.b, 8, none⟩ = some vl := boxRow.cell hB rfl
  rw [e1] at hc
  injection hc with hc
  subst hc
  obtain ⟨v', w', hr, ho, hk, hv⟩ := run_push_fi ty x y hF hl h2.size
  obtain ⟨a', n', c', rfl⟩ := own_form3 ho
  have h3 := AllOwn.swap (pre := [boxRow c.b 105 (egCs c vd vr vo (.slice a e.log.length cap) e.t), keyRow vd e.due, keyRow vr e.rdy, boolRow c.vq e.qd, evRow vo e.told]) (r := fiRow (.slice a e.log.length cap) e.log) (r' := fiRow (.slice a' n' c') (e.log ++ [(x, y)])) (post := [intRow c.vm e.m, intRow c.vw e.way] ++ c.fix) h1 hk ho (by
    rcases hv with e | e
    · exact .inl e
    · exact .inr ⟨_, e, by omega⟩)
  have hlo : ∀ k, (Value.slice a e.log.length cap).ownBlock = some k → w0.heap.size ≤ k := fun k e2 => (Row.lt (r := fiRow (.slice a e.log.length cap) e.log) hF e2).1
  have hB3 := h3.own (boxRow c.b 105 (egCs c vd vr vo (.slice a e.log.length cap) e.t)) (by simp)
  have h4 := AllOwn.store (pre := []) (b := c.b) (t := 105) (cs := egCs c vd vr vo (.slice a e.log.length cap) e.t) (post := [keyRow vd e.due, keyRow vr e.rdy, boolRow c.vq e.qd, evRow vo e.told] ++ fiRow (.slice a' n' c') (e.log ++ [(x, y)]) :: ([intRow c.vm e.m, intRow c.vw e.way] ++ c.fix)) h3 8 (.slice a' n' c')
  have h5 := h2.trans (hk.below hlo h2.size)
  exact ⟨a', n', c', w', hr, ⟨vd, vr, vo, .slice a' n' c', h4.1, h5.trans (h4.2.below (fun j e => by subst e; exact hb) h5.size)⟩, boxRow.cell hB3 rfl, boxRow.froz hB3 8, (boxRow.lt hB3).2⟩
/-- one more told -/
theorem EgAt.pushT (h : EgAt w0 w c e) (hl : e.told.length ≤ 1000000) (ty : TypeId) (x : Ev) {a : Option Addr} {cap : Nat} (hc : w.cell? ⟨c.b, 7, none⟩ = some (.slice a e.told.length cap)) :
    ∃ a' n' c' w', (Builtin.append_ #[70, 70] ty #[.slice a e.told.length cap, .slice (some ⟨w.heap.size, 0, none⟩) 1 1]).run Try.prog (w.alloc (.cells #[.int .i64 x.time, .int .i64 x.place, .int .i64 x.n] 74)) = .ok (.slice a' n' c') w' ∧
      EgAt w0 (w'.setCell ⟨c.b, 7, none⟩ (.slice a' n' c')) c {e with told := e.told ++ [x]} ∧ w'.cell? ⟨c.b, 7, none⟩ = some (.slice a e.told.length cap) ∧ w'.frozen? ⟨c.b, 7, none⟩ = false ∧ c.b < w'.heap.size := by
  have hb := h.cells.2.2.2.2.2.2.2.2.2
  obtain ⟨vd, vr, vo, vl, h1, h2⟩ := h
  have hB := h1.own (boxRow c.b 105 (egCs c vd vr vo vl e.t)) (by simp [egRows])
  have hF : OwnE w0.heap.size w vo e.told := h1.own (evRow vo e.told) (by simp [egRows])
  have e1 : w.cell? ⟨c.b, 7, none⟩ = some vo := boxRow.cell hB rfl
  rw [e1] at hc
  injection hc with hc
  subst hc
  obtain ⟨v', w', hr, ho, hk, hv⟩ := run_push_ev ty x hF hl h2.size
  obtain ⟨a', n', c', rfl⟩ := own_form3 ho
  have h3 := AllOwn.swap (pre := [boxRow c.b 105 (egCs c vd vr (.slice a e.told.length cap) vl e.t), keyRow vd e.due, keyRow vr e.rdy, boolRow c.vq e.qd]) (r := evRow (.slice a e.told.length cap) e.told) (r' := evRow (.slice a' n' c') (e.told ++ [x])) (post := [fiRow vl e.log, intRow c.vm e.m, intRow c.vw e.way] ++ c.fix) h1 hk ho (by
    rcases hv with e | e
    · exact .inl e
    · exact .inr ⟨_, e, by omega⟩)
  have hlo : ∀ k, (Value.slice a e.told.length cap).ownBlock = some k → w0.heap.size ≤ k := fun k e2 => (Row.lt (r := evRow (.slice a e.told.length cap) e.told) hF e2).1
  have hB3 := h3.own (boxRow c.b 105 (egCs c vd vr (.slice a e.told.length cap) vl e.t)) (by simp)
  have h4 := AllOwn.store (pre := []) (b := c.b) (t := 105) (cs := egCs c vd vr (.slice a e.told.length cap) vl e.t) (post := [keyRow vd e.due, keyRow vr e.rdy, boolRow c.vq e.qd] ++ evRow (.slice a' n' c') (e.told ++ [x]) :: ([fiRow vl e.log, intRow c.vm e.m, intRow c.vw e.way] ++ c.fix)) h3 7 (.slice a' n' c')
  have h5 := h2.trans (hk.below hlo h2.size)
  exact ⟨a', n', c', w', hr, ⟨vd, vr, .slice a' n' c', vl, h4.1, h5.trans (h4.2.below (fun j e => by subst e; exact hb) h5.size)⟩, boxRow.cell hB3 rfl, boxRow.froz hB3 7, (boxRow.lt hB3).2⟩
end

/-- which error there is, ahead of a firing -/
def refuseL (ll : Nat) (f : Int) : Int := if 20 ≤ f then 4 else if 2000 ≤ ll then 5 else 0

set_option maxRecDepth 100000 in
set_option maxHeartbeats 4000000 in
theorem erefuse_any {w0 w : World} {c : EC} {e : Eg} {i : Nat} {x : Tr} {f q : Int} (hc : EOk c) (h : EgAt w0 w c e) (hx : c.n.trans[i]? = some x) (ht : 0 ≤ e.t ∧ e.t ≤ 2000000000) (hq : q = refuseL e.log.length f) :
    Calls Try.prog 63 #[.pointer (some ⟨c.b, 0, none⟩), .int .i64 i, .int .i64 f] w fun r w' => r = .returned (.int .i64 q) ∧ Below w.heap.size w w' := by
  have hd := hc.nok.dly x (hc.nok.at_ hx)
  have hnet := h.net hc.l
  obtain ⟨a0, np, c0, a4, nt, c4, e1, e2, hnp, hnt⟩ := hnet.form2
  have k1 := h.cells.2.1
  have k11 := h.cells.2.2.2.2.2.2.2.1
  have kb := h.cells.2.2.2.2.2.2.2.2.1
  rw [e2] at k1
  obtain ⟨_, l, hl, htr⟩ := hnet
  rw [e2] at htr
  obtain ⟨g, off, a1, c1, a2, c2, a3, c3, rfl, hgw, z0, z1, z2, z3, z4, z5, _, _, _⟩ := htr.at_ (i := i) (t := x) (by rw [hl]; exact hx)
  obtain ⟨al, cl, k8, hF⟩ := h.logs
  have hlt : i < nt := by rw [hnt]; exact lt_at hx
  have hlti : (i : Int) < (nt : Int) := by omega
  have hlmax : e.log.length ≤ 9223372036854775807 := by
    have := RowAt.max (RowAt.of_own hF); omega
  obtain ⟨ll, hll⟩ : ∃ k, k = e.log.length := ⟨_, rfl⟩
  unfold refuseL at hq
  rw [← hll] at k8 hq hlmax
  obtain ⟨t, hte⟩ : ∃ t, t = e.t := ⟨_, rfl⟩
  rw [← hte] at k11 ht
  obtain ⟨dl, hdl⟩ : ∃ k, k = x.delay := ⟨_, rfl⟩
  obtain ⟨pr, hpr⟩ : ∃ k, k = x.prio := ⟨_, rfl⟩
  obtain ⟨sx, hsx⟩ : ∃ k, k = x.name := ⟨_, rfl⟩
  obtain ⟨n1, hn1⟩ : ∃ k, k = x.inn.length := ⟨_, rfl⟩
  obtain ⟨n2, hn2⟩ : ∃ k, k = x.nt.length := ⟨_, rfl⟩
  obtain ⟨n3, hn3⟩ : ∃ k, k = x.out.length := ⟨_, rfl⟩
  rw [← hdl] at z1 hd
  rw [← hpr] at z2
  rw [← hsx] at z0
  rw [← hn1] at z3
  rw [← hn2] at z4
  rw [← hn3] at z5
  have hw : IntKind.i64.wrap (1099511627776 - dl) = 1099511627776 - dl := IntWalk.i64_in _ (by omega)
  have htm : ¬ (1099511627776 - dl : Int) < t := by omega
  have htmb : decide ((1099511627776 - dl : Int) < t) = false := decide_eq_false htm
  have hlo : -9223372036854775808 ≤ 1099511627776 - dl := by omega
  have hhi : 1099511627776 - dl ≤ 9223372036854775807 := by omega
  have Hb := Lib.hid ((Below.refl w.heap.size w).alloc (Nat.le_refl _) (.cells #[.string sx, .int .i64 dl, .int .i64 pr, .slice a1 n1 c1, .slice a2 n2 c2, .slice a3 n3 c3] 79))
  clear h hl htr hF hx hnt hnp hll hdl hpr hsx hn1 hn2 hn3 hd ht hc e1 e2 hte
  by_cases g1 : 20 ≤ f
  · obtain rfl : q = 4 := by rw [hq, if_pos g1]
    clear hq
    go_enter Try.func63, Try.ntmps63
    go_wp2
    go_ret
    exact ⟨rfl, Hb.out⟩
  rw [if_neg g1] at hq
  have g1b : decide ((20 : Int) ≤ f) = false := decide_eq_false g1
  by_cases g2 : 2000 ≤ ll
  · obtain rfl : q = 5 := by rw [hq, if_pos g2]
    have g2i : (2000 : Int) ≤ (ll : Int) := by omega
    clear hq
    go_enter Try.func63, Try.ntmps63
    go_wp2
    go_ret
    exact ⟨rfl, Hb.out⟩
  obtain rfl : q = 0 := by rw [hq, if_neg g2]
  have g2i : ¬ (2000 : Int) ≤ (ll : Int) := by omega
  have g2b : decide ((2000 : Int) ≤ (ll : Int)) = false := decide_eq_false g2i
  clear hq
  by_cases g3 : 0 < n3
  · have g3i : (0 : Int) < (n3 : Int) := by omega
    go_enter Try.func63, Try.ntmps63
    go_wp2
    go_quiet (fail)
    go_wp2
    go_ret
    exact ⟨rfl, Hb.out.trans ((drewNb _ _).mono Hb.out.size)⟩
  · have g3i : ¬ (0 : Int) < (n3 : Int) := by omega
    have g3b : decide ((0 : Int) < (n3 : Int)) = false := decide_eq_false g3i
    go_enter Try.func63, Try.ntmps63
    go_wp2
    go_quiet (fail)
    go_wp2
    go_ret
    exact ⟨rfl, Hb.out.trans ((drewNb _ _).mono Hb.out.size)⟩
end Go.Proofs.Ytpbbdnicafifpaa

/-! ## EgE -/
namespace Go.Proofs.Ytpbbdnicafifpaa
open Go.RowKit
set_option linter.unusedVariables false

set_option maxRecDepth 100000 in
set_option maxHeartbeats 4000000 in
theorem come_any {w0 w : World} {c : EC} {e : Eg} {p : Nat} {t n z : Int} (hc : EOk c) (h : EgAt w0 w c e) (hh : IsHeap e.due) (hdl : e.due.length ≤ 100000) (hm : e.way.length = c.n.places.length) (hz : e.way[p]? = some z) (hz0 : 0 ≤ z) (hn : 1 ≤ n) (hzn : z + n ≤ 1099511627776) :
    Calls Try.prog 38 #[.pointer (some ⟨c.b, 0, none⟩), .agg #[.int .i64 t, .int .i64 p, .int .i64 n]] w fun r w' => r = .returned (.tuple #[]) ∧ ∃ D, D.Perm ((t, 0, (p : Int), n) :: e.due) ∧ IsHeap D ∧ EgAt w0 w' c {e with due := D, way := e.way.set p (z + n)} := by
  have h1 := h.plusBox #[.int .i64 t, .int .i64 p, .int .i64 n] 74
  obtain ⟨kb, hkb⟩ : ∃ q, q = w.heap.size := ⟨_, rfl⟩
  have hpl : p < c.nm := by rw [hc.nm, ← hm]; exact lt_at hz
  have hpi : (p : Int) < (c.nm : Int) := by omega
  have hpw : p < c.nw := by rw [hc.nw, ← hm]; exact lt_at hz
  have hpwi : (p : Int) < (c.nw : Int) := by omega
  have g1 : decide ((p : Int) < 0) = false := decide_eq_false (by omega)
  have g2 : decide ((c.nm : Int) ≤ (p : Int)) = false := decide_eq_false (by omega)
  have g2n : decide (c.nm ≤ p) = false := decide_eq_false (by omega)
  have g3 : decide (n < 1) = false := decide_eq_false (by omega)
  rw [← hkb] at h1
  have H1 := Lib.hid h1
  have Hkb := Lib.hid hkb
  have HC := Lib.hid hc
  have Hh := Lib.hid hh
  have Hz := Lib.hid hz
  have Hm := Lib.hid hm
  clear h hc hh hz hm h1
  go_enter Try.func38, Try.ntmps38
  go_upto_region 1 with (fail)
  rw [← Hkb.out]
  clear hkb Hkb
  revert H1
  generalize (w.alloc (.cells #[.int .i64 t, .int .i64 (p : Int), .int .i64 n] 74)) = V
  intro H1
  go_cut [25] from 4 to 25 (fun s wc => s = .bool false ∧ Below V.heap.size V wc)
  case first =>
    have h1 := H1.out
    have k9 := h1.cells.2.2.2.2.2.1
    have hbl := h1.cells.2.2.2.2.2.2.2.2.1
    simp only [EC.vm, EC.plus] at k9 hbl
    have hbx := h1.beside
    have x1 := boxRow.cell hbx (j := 1) rfl
    have x2 := boxRow.cell hbx (j := 2) rfl
    have xl := (boxRow.lt hbx).2
    clear h1 hbx H1
    go_wp2
    go_quiet (fail)
    go_wp2
    go_meet
    case rel => exact ⟨rfl, drewNb _ _⟩
  case rest =>
    obtain ⟨rfl, hb⟩ := hcut
    rename World => V1
    have H2 := Lib.hid (H1.out.go hb)
    clear hb H1 g1 g2 g2n g3 hpl hpi
    go_upto_region 2 with (fail)
    have hd := H2.out.go (Below.refl _ _).drew
    have HP0 := due_push hd Hh.out hdl t 0 (p : Int) n
    have HP : Hid (Calls Try.prog 68 #[.pointer (some ⟨c.b, 4, none⟩), .agg #[.int .i64 t, .int .i64 0, .int .i64 (p : Int), .int .i64 n]] V1.drew fun r w' => r = .returned (.tuple #[]) ∧ ∃ D', D'.Perm ((t, 0, (p : Int), n) :: e.due) ∧ IsHeap D' ∧ EgAt w0 w' (c.plus (boxRow kb 74 [.int .i64 t, .int .i64 (p : Int), .int .i64 n])) {e with due := D'}) := Lib.hid HP0
    have hbl := H2.out.cells.2.2.2.2.2.2.2.2.1
    simp only [EC.plus] at hbl
    have hbx := H2.out.beside
    have x0 := boxRow.cell hbx (j := 0) rfl
    have x1 := boxRow.cell hbx (j := 1) rfl
    have x2 := boxRow.cell hbx (j := 2) rfl
    have xl := (boxRow.lt hbx).2
    clear hd HP0 hbx
    go_region_held3 (fun w' => w'.cell? ⟨kb, 0, none⟩ = some (.int .i64 t) ∧ w'.cell? ⟨kb, 1, none⟩ = some (.int .i64 (p : Int)) ∧ w'.cell? ⟨kb, 2, none⟩ = some (.int .i64 n)) (first | go_keep | exact kk) (first | (go_simp; go_at_call 68; refine HP.out.mono ?_; rintro r w4 ⟨rfl, D, hD1, hD2, h4⟩; have kk := And.intro (boxRow.cell (h4.beside) (j := 0) rfl) (And.intro (boxRow.cell (h4.beside) (j := 1) rfl) (boxRow.cell (h4.beside) (j := 2) rfl)); have H4 := Lib.hid (And.intro hD1 (And.intro hD2 h4)); clear hD1 hD2 h4))
    obtain ⟨hD1, hD2, h4⟩ := H4.out
    clear x0 x1 x2 xl hbl HP H2
    have hbl := h4.cells.2.2.2.2.2.2.2.2.1
    have k10 := h4.cells.2.2.2.2.2.2.1
    simp only [EC.plus, EC.vw] at hbl k10
    have hbx := h4.beside
    have x1 := boxRow.cell hbx (j := 1) rfl
    have x2 := boxRow.cell hbx (j := 2) rfl
    have xl := (boxRow.lt hbx).2
    have h5 := h4.minus
    have hW := h5.ways
    have c0 := hW.cell Hz.out
    have f0 := hW.froz p
    have l0 := hW.lt.2
    have hst := hW.set p (z + n) (lt_at Hz.out)
    have H6 := Lib.hid ((h5.turnW hst.1 hst.2).go (Below.refl _ _).drew)
    have HD := Lib.hid (And.intro hD1 hD2)
    have hwr : IntKind.i64.wrap (z + n) = z + n := IntWalk.i64_in _ (by omega)
    have hb1 : -9223372036854775808 ≤ z + n := by omega
    have hb2 : z + n ≤ 9223372036854775807 := by omega
    clear hD1 hD2 h4 hbx h5 hW hst H4 kk
    go_wp2
    go_region
    go_wp2
    go_end0
    exact ⟨rfl, D, HD.out.1, HD.out.2, H6.out⟩

set_option maxRecDepth 100000 in
set_option maxHeartbeats 4000000 in
theorem enext_any {w0 w : World} {c : EC} {e : Eg} (h : EgAt w0 w c e) (hh : IsHeap e.due) (q : Int) (hq : q = if e.due = [] then -1 else (at4 e.due 0).1) :
    Calls Try.prog 36 #[.pointer (some ⟨c.b, 0, none⟩)] w fun r w' => r = .returned (.int .i64 q) ∧ Below w.heap.size w w' := by
  have hbl := h.cells.2.2.2.2.2.2.2.2.1
  by_cases h0 : e.due = []
  · rw [if_pos h0] at hq
    subst hq
    have HT := Lib.hid (due_top0 h hh h0)
    clear h hh h0
    go_enter Try.func36, Try.ntmps36
    go_wp2_with fail
    refine HT.out.mono ?_
    rintro r w2 ⟨rfl, hb2⟩
    have H2 := Lib.hid (hb2.trans (((Below.refl _ w2).alloc (Nat.le_refl _) (.cells #[.int .i64 0, .int .i64 0, .int .i64 0, .int .i64 0] 112)).mono hb2.size))
    clear hb2 HT
    go_wp2
    go_ret
    exact ⟨rfl, H2.out⟩
  · rw [if_neg h0] at hq
    have HT0 := due_top h hh (List.length_pos_iff.2 h0)
    obtain ⟨⟨x1, x2, x3, x4⟩, hx⟩ : ∃ x, x = at4 e.due 0 := ⟨_, rfl⟩
    rw [← hx] at HT0 hq
    simp only at hq
    subst hq
    have HT := Lib.hid HT0
    unfold kv at HT
    simp only at HT
    clear h hh h0 HT0 hx
    go_enter Try.func36, Try.ntmps36
    go_wp2_with fail
    refine HT.out.mono ?_
    rintro r w2 ⟨rfl, hb2⟩
    have H2 := Lib.hid (hb2.trans (((Below.refl _ w2).alloc (Nat.le_refl _) (.cells #[.int .i64 q, .int .i64 x2, .int .i64 x3, .int .i64 x4] 112)).mono hb2.size))
    clear hb2 HT
    go_wp2
    go_ret
    exact ⟨rfl, H2.out⟩
end Go.Proofs.Ytpbbdnicafifpaa
