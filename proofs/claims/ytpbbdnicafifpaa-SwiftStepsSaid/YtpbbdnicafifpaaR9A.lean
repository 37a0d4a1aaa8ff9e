/-
  The document's own run: its result's box and rows, beside others; one of them turned.
  Conditions: none beyond each theorem's own.
-/
import Derived.Test.YtpbbdnicafifpaaFireMath
import Derived.Test.YtpbbdnicafifpaaRunP
import Derived.Deep.LoopGhost
import Derived.Deep.RegionLaw
import Derived.Deep.RegionHeld3
import Derived.Deep.CutRange
namespace Go.Proofs.Ytpbbdnicafifpaa
open Go.RowKit
set_option linter.unusedVariables false

def refRows (R : Nat) (vl vm vw : Value) (t : Int) (log : List (Int × Int)) (m way : List Int) : List Row := [boxRow R 51 [vl, vm, vw, .int .i64 t], fiRow vl log, intRow vm m, intRow vw way]
/-- the result's box in block R, over what lies below w0's end; its firings, tokens, what is under way; other rows beside -/
def RefAt (w0 w : World) (R : Nat) (t : Int) (log : List (Int × Int)) (m way : List Int) (more : List Row) : Prop :=
  ∃ vl vm vw, AllOwn w0.heap.size w (refRows R vl vm vw t log m way ++ more) ∧ Below w0.heap.size w0 w

section
variable {w0 w w' : World} {R : Nat} {t : Int} {log : List (Int × Int)} {m way m' : List Int} {more pre post : List Row} {r r' : Row}
theorem RefAt.low (h : RefAt w0 w R t log m way more) : Below w0.heap.size w0 w := by obtain ⟨_, _, _, _, h2⟩ := h; exact h2
theorem RefAt.go (h : RefAt w0 w R t log m way more) (hb : Below w.heap.size w w') : RefAt w0 w' R t log m way more := by
  obtain ⟨vl, vm, vw, h1, h2⟩ := h
  exact ⟨vl, vm, vw, h1.below hb, h2.trans (hb.mono h2.size)⟩
theorem RefAt.mem (h : RefAt w0 w R t log m way more) {r : Row} (hr : r ∈ more) : r.own w0.heap.size w := by
  obtain ⟨vl, vm, vw, h1, h2⟩ := h
  exact h1.own r (by simp [hr])
theorem RefAt.froz (h : RefAt w0 w R t log m way more) (j : Nat) : w.frozen? ⟨R, j, none⟩ = false := by
  obtain ⟨vl, vm, vw, h1, h2⟩ := h
  exact boxRow.froz (h1.own (boxRow R 51 [vl, vm, vw, .int .i64 t]) (by simp [refRows])) j
theorem RefAt.lt (h : RefAt w0 w R t log m way more) : w0.heap.size ≤ R ∧ R < w.heap.size := by
  obtain ⟨vl, vm, vw, h1, h2⟩ := h
  exact boxRow.lt (h1.own (boxRow R 51 [vl, vm, vw, .int .i64 t]) (by simp [refRows]))
theorem RefAt.tcell (h : RefAt w0 w R t log m way more) : w.cell? ⟨R, 3, none⟩ = some (.int .i64 t) := by
  obtain ⟨vl, vm, vw, h1, h2⟩ := h
  exact boxRow.cell (h1.own (boxRow R 51 [vl, vm, vw, .int .i64 t]) (by simp [refRows])) rfl
/-- the firings -/
theorem RefAt.logs (h : RefAt w0 w R t log m way more) : ∃ a c, w.cell? ⟨R, 0, none⟩ = some (.slice a log.length c) ∧ OwnF w0.heap.size w (.slice a log.length c) log := by
  obtain ⟨vl, vm, vw, h1, h2⟩ := h
  have hB := h1.own (boxRow R 51 [vl, vm, vw, .int .i64 t]) (by simp [refRows])
  have hF : OwnF w0.heap.size w vl log := h1.own (fiRow vl log) (by simp [refRows])
  obtain ⟨a, c, rfl⟩ := own_form hF
  exact ⟨a, c, boxRow.cell hB rfl, hF⟩
/-- the tokens, and one of them turned -/
theorem RefAt.toks (h : RefAt w0 w R t log m way more) : ∃ a c, w.cell? ⟨R, 1, none⟩ = some (.slice a m.length c) ∧ OwnI w0.heap.size w (.slice a m.length c) m ∧
    (∀ b, a = some ⟨b, 0, none⟩ → ∀ m' w', OwnI w0.heap.size w' (.slice (some ⟨b, 0, none⟩) m.length c) m' → Kept (fun k => k = b) w w' → RefAt w0 w' R t log m' way more) := by
  obtain ⟨vl, vm, vw, h1, h2⟩ := h
  have hB := h1.own (boxRow R 51 [vl, vm, vw, .int .i64 t]) (by simp [refRows])
  have hF : OwnI w0.heap.size w vm m := h1.own (intRow vm m) (by simp [refRows])
  obtain ⟨a, c, rfl⟩ := own_form hF
  refine ⟨a, c, boxRow.cell hB rfl, hF, fun b hb m' w' ho hk => ?_⟩
  subst hb
  have hlo := (Row.lt (r := intRow (.slice (some ⟨b, 0, none⟩) m.length c) m) hF (k := b) rfl).1
  refine ⟨vl, .slice (some ⟨b, 0, none⟩) m.length c, vw, ?_, h2.trans (hk.below (fun k e => by subst e; exact hlo) h2.size)⟩
  exact AllOwn.swap (pre := [boxRow R 51 [vl, .slice (some ⟨b, 0, none⟩) m.length c, vw, .int .i64 t], fiRow vl log]) (r := intRow (.slice (some ⟨b, 0, none⟩) m.length c) m) (r' := intRow (.slice (some ⟨b, 0, none⟩) m.length c) m') (post := intRow vw way :: more) h1 (hk.mono (fun j _ e => by subst e; rfl)) ho (.inl rfl)
/-- what is under way, and one of them turned -/
theorem RefAt.ways (h : RefAt w0 w R t log m way more) : ∃ a c, w.cell? ⟨R, 2, none⟩ = some (.slice a way.length c) ∧ OwnI w0.heap.size w (.slice a way.length c) way ∧
    (∀ b, a = some ⟨b, 0, none⟩ → ∀ m' w', OwnI w0.heap.size w' (.slice (some ⟨b, 0, none⟩) way.length c) m' → Kept (fun k => k = b) w w' → RefAt w0 w' R t log m m' more) := by
  obtain ⟨vl, vm, vw, h1, h2⟩ := h
  have hB := h1.own (boxRow R 51 [vl, vm, vw, .int .i64 t]) (by simp [refRows])
  have hF : OwnI w0.heap.size w vw way := h1.own (intRow vw way) (by simp [refRows])
  obtain ⟨a, c, rfl⟩ := own_form hF
  refine ⟨a, c, boxRow.cell hB rfl, hF, fun b hb m' w' ho hk => ?_⟩
  subst hb
  have hlo := (Row.lt (r := intRow (.slice (some ⟨b, 0, none⟩) way.length c) way) hF (k := b) rfl).1
  refine ⟨vl, vm, .slice (some ⟨b, 0, none⟩) way.length c, ?_, h2.trans (hk.below (fun k e => by subst e; exact hlo) h2.size)⟩
  exact AllOwn.swap (pre := [boxRow R 51 [vl, vm, .slice (some ⟨b, 0, none⟩) way.length c, .int .i64 t], fiRow vl log, intRow vm m]) (r := intRow (.slice (some ⟨b, 0, none⟩) way.length c) way) (r' := intRow (.slice (some ⟨b, 0, none⟩) way.length c) m') (post := more) h1 (hk.mono (fun j _ e => by subst e; rfl)) ho (.inl rfl)
/-- the tokens and what is under way, both: where they lie, apart; one of each turned, whatever new has been made -/
theorem RefAt.both (h : RefAt w0 w R t log m way more) (hm : 0 < m.length) (hw : 0 < way.length) : ∃ bm cm bw cw, w.cell? ⟨R, 1, none⟩ = some (.slice (some ⟨bm, 0, none⟩) m.length cm) ∧ w.cell? ⟨R, 2, none⟩ = some (.slice (some ⟨bw, 0, none⟩) way.length cw) ∧
    OwnI w0.heap.size w (.slice (some ⟨bm, 0, none⟩) m.length cm) m ∧ OwnI w0.heap.size w (.slice (some ⟨bw, 0, none⟩) way.length cw) way ∧ R ≠ bm ∧ R ≠ bw ∧ bm ≠ bw ∧
    (∀ W, Below w.heap.size w W → ∀ p zm, p < m.length → RefAt w0 (W.setCell ⟨bm, p, none⟩ (.int .i64 zm)) R t log (m.set p zm) way more) ∧
    (∀ W, Below w.heap.size w W → ∀ p zw, p < way.length → RefAt w0 (W.setCell ⟨bw, p, none⟩ (.int .i64 zw)) R t log m (way.set p zw) more) ∧
    (∀ W, Below w.heap.size w W → ∀ q zw p zm, p < m.length → q < way.length → RefAt w0 ((W.setCell ⟨bw, q, none⟩ (.int .i64 zw)).setCell ⟨bm, p, none⟩ (.int .i64 zm)) R t log (m.set p zm) (way.set q zw) more) ∧
    (∀ r ∈ more, ∀ k, r.v.ownBlock = some k → k ≠ bm ∧ k ≠ bw) := by
  obtain ⟨vl, vm, vw, h1, h2⟩ := h
  have hB := h1.own (boxRow R 51 [vl, vm, vw, .int .i64 t]) (by simp [refRows])
  have hM : OwnI w0.heap.size w vm m := h1.own (intRow vm m) (by simp [refRows])
  have hW : OwnI w0.heap.size w vw way := h1.own (intRow vw way) (by simp [refRows])
  obtain ⟨bm, cm, rfl⟩ := OwnI.form hM hm
  obtain ⟨bw, cw, rfl⟩ := OwnI.form hW hw
  have hap := h1.apart
  simp only [refRows, List.cons_append, List.nil_append, List.pairwise_cons] at hap
  obtain ⟨ha, _, hb, hc, _⟩ := hap
  have n1 : R ≠ bm := fun e => ha (intRow (.slice (some ⟨bm, 0, none⟩) m.length cm) m) (by simp) R rfl (by rw [e]; rfl)
  have n2 : R ≠ bw := fun e => ha (intRow (.slice (some ⟨bw, 0, none⟩) way.length cw) way) (by simp) R rfl (by rw [e]; rfl)
  have n3 : bm ≠ bw := fun e => hb (intRow (.slice (some ⟨bw, 0, none⟩) way.length cw) way) (by simp) bm rfl (by rw [e]; rfl)
  have lm := hM.lt.1
  have lw := hW.lt.1
  have tM : ∀ (W : World) (way' : List Int), AllOwn w0.heap.size W (refRows R vl (.slice (some ⟨bm, 0, none⟩) m.length cm) (.slice (some ⟨bw, 0, none⟩) way.length cw) t log m way' ++ more) → Below w0.heap.size w0 W → ∀ p zm, p < m.length → RefAt w0 (W.setCell ⟨bm, p, none⟩ (.int .i64 zm)) R t log (m.set p zm) way' more := by
    intro W way' hA hl p zm hp
    have hM' : OwnI w0.heap.size W (.slice (some ⟨bm, 0, none⟩) m.length cm) m := hA.own (intRow (.slice (some ⟨bm, 0, none⟩) m.length cm) m) (by simp [refRows])
    have hs := hM'.set p zm hp
    exact ⟨vl, _, _, AllOwn.swap (pre := [boxRow R 51 [vl, .slice (some ⟨bm, 0, none⟩) m.length cm, .slice (some ⟨bw, 0, none⟩) way.length cw, .int .i64 t], fiRow vl log]) (r := intRow (.slice (some ⟨bm, 0, none⟩) m.length cm) m) (r' := intRow (.slice (some ⟨bm, 0, none⟩) m.length cm) (m.set p zm)) (post := intRow (.slice (some ⟨bw, 0, none⟩) way.length cw) way' :: more) hA (hs.2.mono (fun j _ e => by subst e; rfl)) hs.1 (.inl rfl), hl.trans (hs.2.below (fun j e => by subst e; exact lm) hl.size)⟩
  have tW : ∀ (W : World), Below w.heap.size w W → ∀ q zw, q < way.length → AllOwn w0.heap.size (W.setCell ⟨bw, q, none⟩ (.int .i64 zw)) (refRows R vl (.slice (some ⟨bm, 0, none⟩) m.length cm) (.slice (some ⟨bw, 0, none⟩) way.length cw) t log m (way.set q zw) ++ more) ∧ Below w0.heap.size w0 (W.setCell ⟨bw, q, none⟩ (.int .i64 zw)) := by
    intro W hW0 q zw hq
    have hA := h1.below hW0
    have hl := h2.trans (hW0.mono h2.size)
    have hW' : OwnI w0.heap.size W (.slice (some ⟨bw, 0, none⟩) way.length cw) way := hA.own (intRow (.slice (some ⟨bw, 0, none⟩) way.length cw) way) (by simp [refRows])
    have hs := hW'.set q zw hq
    exact ⟨AllOwn.swap (pre := [boxRow R 51 [vl, .slice (some ⟨bm, 0, none⟩) m.length cm, .slice (some ⟨bw, 0, none⟩) way.length cw, .int .i64 t], fiRow vl log, intRow (.slice (some ⟨bm, 0, none⟩) m.length cm) m]) (r := intRow (.slice (some ⟨bw, 0, none⟩) way.length cw) way) (r' := intRow (.slice (some ⟨bw, 0, none⟩) way.length cw) (way.set q zw)) (post := more) hA (hs.2.mono (fun j _ e => by subst e; rfl)) hs.1 (.inl rfl), hl.trans (hs.2.below (fun j e => by subst e; exact lw) hl.size)⟩
  refine ⟨bm, cm, bw, cw, boxRow.cell hB rfl, boxRow.cell hB rfl, hM, hW, n1, n2, n3, fun W hW0 => tM W way (h1.below hW0) (h2.trans (hW0.mono h2.size)), fun W hW0 p zw hp => ?_, fun W hW0 q zw p zm hp hq => ?_, fun r hr k hk => ⟨fun e => hb r (by simp [hr]) bm rfl (by rw [← e]; exact hk), fun e => hc r hr bw rfl (by rw [← e]; exact hk)⟩⟩
  · have := tW W hW0 p zw hp
    exact ⟨vl, _, _, this.1, this.2⟩
  · have := tW W hW0 q zw hq
    exact tM _ _ this.1 this.2 p zm hp
/-- a row beside is turned -/
theorem RefAt.swap (h : RefAt w0 w R t log m way (pre ++ r :: post)) (hk : Kept (fun k => r.v.ownBlock = some k) w w') (hr : r'.own w0.heap.size w') (hf : r'.v.ownBlock = r.v.ownBlock ∨ ∃ k, r'.v.ownBlock = some k ∧ w.heap.size ≤ k) : RefAt w0 w' R t log m way (pre ++ r' :: post) := by
  obtain ⟨vl, vm, vw, h1, h2⟩ := h
  have hro := h1.own r (by simp)
  rw [← List.append_assoc] at h1
  have h3 := AllOwn.swap h1 hk hr hf
  rw [List.append_assoc] at h3
  exact ⟨vl, vm, vw, h3, h2.trans (hk.below (fun k e => (Row.lt hro e).1) h2.size)⟩
/-- one more row beside, all new -/
theorem RefAt.add (h : RefAt w0 w R t log m way more) (hb : Below w.heap.size w w') {r : Row} (hr : r.own w0.heap.size w') (hf : ∀ k, r.v.ownBlock = some k → w.heap.size ≤ k) : RefAt w0 w' R t log m way (more ++ [r]) := by
  obtain ⟨vl, vm, vw, h1, h2⟩ := h
  have h3 := h1.add hb hr hf
  rw [List.append_assoc] at h3
  exact ⟨vl, vm, vw, h3, h2.trans (hb.mono h2.size)⟩
theorem RefAt.sub {more' : List Row} (h : RefAt w0 w R t log m way more) (hs : more'.Sublist more) : RefAt w0 w R t log m way more' := by
  obtain ⟨vl, vm, vw, h1, h2⟩ := h
  exact ⟨vl, vm, vw, h1.sub (List.Sublist.append (List.Sublist.refl _) hs), h2⟩
/-- the time is set -/
theorem RefAt.time (h : RefAt w0 w R t log m way more) (t' : Int) : RefAt w0 (w.setCell ⟨R, 3, none⟩ (.int .i64 t')) R t' log m way more := by
  have hb := h.lt.1
  obtain ⟨vl, vm, vw, h1, h2⟩ := h
  have h3 := AllOwn.store (pre := []) (b := R) (t := 51) (cs := [vl, vm, vw, .int .i64 t]) (post := [fiRow vl log, intRow vm m, intRow vw way] ++ more) h1 3 (.int .i64 t')
  exact ⟨vl, vm, vw, h3.1, h2.trans (h3.2.below (fun j e => by subst e; exact hb) h2.size)⟩
/-- one more firing -/
theorem RefAt.pushF (h : RefAt w0 w R t log m way more) (hl : log.length ≤ 1000000) (ty : TypeId) (x y : Int) {a : Option Addr} {c : Nat} (hc : w.cell? ⟨R, 0, none⟩ = some (.slice a log.length c)) :
    ∃ a' n' c' w', (Builtin.append_ #[49, 49] ty #[.slice a log.length c, .slice (some ⟨w.heap.size, 0, none⟩) 1 1]).run Try.prog (w.alloc (.cells #[.int .i64 x, .int .i64 y] 55)) = .ok (.slice a' n' c') w' ∧
      RefAt w0 (w'.setCell ⟨R, 0, none⟩ (.slice a' n' c')) R t (log ++ [(x, y)]) m way more ∧ w'.cell? ⟨R, 0, none⟩ = some (.slice a log.length c) ∧ w'.frozen? ⟨R, 0, none⟩ = false ∧ R < w'.heap.size := by
  have hb := h.lt.1
  obtain ⟨vl, vm, vw, h1, h2⟩ := h
  have hB := h1.own (boxRow R 51 [vl, vm, vw, .int .i64 t]) (by simp [refRows])
  have hF : OwnF w0.heap.size w vl log := h1.own (fiRow vl log) (by simp [refRows])
  have e : w.cell? ⟨R, 0, none⟩ = some vl := boxRow.cell hB rfl
  rw [e] at hc
  injection hc with hc
  subst hc
  obtain ⟨v', w', hr, ho, hk, hv⟩ := run_push_fi ty x y hF hl h2.size
  obtain ⟨a', n', c', rfl⟩ := own_form3 ho
  have h3 := AllOwn.swap (pre := [boxRow R 51 [.slice a log.length c, vm, vw, .int .i64 t]]) (r := fiRow (.slice a log.length c) log) (r' := fiRow (.slice a' n' c') (log ++ [(x, y)])) (post := [intRow vm m, intRow vw way] ++ more) h1 hk ho (by
    rcases hv with e | e
    · exact .inl e
    · exact .inr ⟨_, e, by omega⟩)
  have hlo : ∀ k, (Value.slice a log.length c).ownBlock = some k → w0.heap.size ≤ k := fun k e => (Row.lt (r := fiRow (.slice a log.length c) log) hF e).1
  have hB3 := h3.own (boxRow R 51 [.slice a log.length c, vm, vw, .int .i64 t]) (by simp)
  have h4 := AllOwn.store (pre := []) (b := R) (t := 51) (cs := [.slice a log.length c, vm, vw, .int .i64 t]) (post := fiRow (.slice a' n' c') (log ++ [(x, y)]) :: ([intRow vm m, intRow vw way] ++ more)) h3 0 (.slice a' n' c')
  have h5 := h2.trans (hk.below hlo h2.size)
  exact ⟨a', n', c', w', hr, ⟨.slice a' n' c', vm, vw, h4.1, h5.trans (h4.2.below (fun j e => by subst e; exact hb) h5.size)⟩, boxRow.cell hB3 rfl, boxRow.froz hB3 0, (boxRow.lt hB3).2⟩
/-- one more place's tokens -/
theorem RefAt.pushM (h : RefAt w0 w R t log m way more) (hl : m.length ≤ 1000000) (ty : TypeId) (x : Int) {a : Option Addr} {c : Nat} (hc : w.cell? ⟨R, 1, none⟩ = some (.slice a m.length c)) :
    ∃ a' n' c' w', (Builtin.append_ #[39, 39] ty #[.slice a m.length c, .slice (some ⟨w.heap.size, 0, none⟩) 1 1]).run Try.prog (w.alloc (.cells #[.int .i64 x] 3)) = .ok (.slice a' n' c') w' ∧
      RefAt w0 (w'.setCell ⟨R, 1, none⟩ (.slice a' n' c')) R t log (m ++ [x]) way more ∧ w'.cell? ⟨R, 1, none⟩ = some (.slice a m.length c) ∧ w'.frozen? ⟨R, 1, none⟩ = false ∧ R < w'.heap.size := by
  have hb := h.lt.1
  obtain ⟨vl, vm, vw, h1, h2⟩ := h
  have hB := h1.own (boxRow R 51 [vl, vm, vw, .int .i64 t]) (by simp [refRows])
  have hF : OwnI w0.heap.size w vm m := h1.own (intRow vm m) (by simp [refRows])
  have e : w.cell? ⟨R, 1, none⟩ = some vm := boxRow.cell hB rfl
  rw [e] at hc
  injection hc with hc
  subst hc
  obtain ⟨v', w', hr, ho, hk, hv⟩ := run_push_i ty x hF hl h2.size
  obtain ⟨a', n', c', rfl⟩ := own_form3 ho
  have h3 := AllOwn.swap (pre := [boxRow R 51 [vl, .slice a m.length c, vw, .int .i64 t], fiRow vl log]) (r := intRow (.slice a m.length c) m) (r' := intRow (.slice a' n' c') (m ++ [x])) (post := intRow vw way :: more) h1 hk ho (by
    rcases hv with e | e
    · exact .inl e
    · exact .inr ⟨_, e, by omega⟩)
  have hlo : ∀ k, (Value.slice a m.length c).ownBlock = some k → w0.heap.size ≤ k := fun k e => (Row.lt (r := intRow (.slice a m.length c) m) hF e).1
  have hB3 := h3.own (boxRow R 51 [vl, .slice a m.length c, vw, .int .i64 t]) (by simp)
  have h4 := AllOwn.store (pre := []) (b := R) (t := 51) (cs := [vl, .slice a m.length c, vw, .int .i64 t]) (post := fiRow vl log :: intRow (.slice a' n' c') (m ++ [x]) :: intRow vw way :: more) h3 1 (.slice a' n' c')
  have h5 := h2.trans (hk.below hlo h2.size)
  exact ⟨a', n', c', w', hr, ⟨vl, .slice a' n' c', vw, h4.1, h5.trans (h4.2.below (fun j e => by subst e; exact hb) h5.size)⟩, boxRow.cell hB3 rfl, boxRow.froz hB3 1, (boxRow.lt hB3).2⟩
theorem RefAt.pushW (h : RefAt w0 w R t log m way more) (hl : way.length ≤ 1000000) (ty : TypeId) (x : Int) {a : Option Addr} {c : Nat} (hc : w.cell? ⟨R, 2, none⟩ = some (.slice a way.length c)) :
    ∃ a' n' c' w', (Builtin.append_ #[39, 39] ty #[.slice a way.length c, .slice (some ⟨w.heap.size, 0, none⟩) 1 1]).run Try.prog (w.alloc (.cells #[.int .i64 x] 3)) = .ok (.slice a' n' c') w' ∧
      RefAt w0 (w'.setCell ⟨R, 2, none⟩ (.slice a' n' c')) R t log m (way ++ [x]) more ∧ w'.cell? ⟨R, 2, none⟩ = some (.slice a way.length c) ∧ w'.frozen? ⟨R, 2, none⟩ = false ∧ R < w'.heap.size := by
  have hb := h.lt.1
  obtain ⟨vl, vm, vw, h1, h2⟩ := h
  have hB := h1.own (boxRow R 51 [vl, vm, vw, .int .i64 t]) (by simp [refRows])
  have hF : OwnI w0.heap.size w vw way := h1.own (intRow vw way) (by simp [refRows])
  have e : w.cell? ⟨R, 2, none⟩ = some vw := boxRow.cell hB rfl
  rw [e] at hc
  injection hc with hc
  subst hc
  obtain ⟨v', w', hr, ho, hk, hv⟩ := run_push_i ty x hF hl h2.size
  obtain ⟨a', n', c', rfl⟩ := own_form3 ho
  have h3 := AllOwn.swap (pre := [boxRow R 51 [vl, vm, .slice a way.length c, .int .i64 t], fiRow vl log, intRow vm m]) (r := intRow (.slice a way.length c) way) (r' := intRow (.slice a' n' c') (way ++ [x])) (post := more) h1 hk ho (by
    rcases hv with e | e
    · exact .inl e
    · exact .inr ⟨_, e, by omega⟩)
  have hlo : ∀ k, (Value.slice a way.length c).ownBlock = some k → w0.heap.size ≤ k := fun k e => (Row.lt (r := intRow (.slice a way.length c) way) hF e).1
  have hB3 := h3.own (boxRow R 51 [vl, vm, .slice a way.length c, .int .i64 t]) (by simp)
  have h4 := AllOwn.store (pre := []) (b := R) (t := 51) (cs := [vl, vm, .slice a way.length c, .int .i64 t]) (post := fiRow vl log :: intRow vm m :: intRow (.slice a' n' c') (way ++ [x]) :: more) h3 2 (.slice a' n' c')
  have h5 := h2.trans (hk.below hlo h2.size)
  exact ⟨a', n', c', w', hr, ⟨vl, vm, .slice a' n' c', h4.1, h5.trans (h4.2.below (fun j e => by subst e; exact hb) h5.size)⟩, boxRow.cell hB3 rfl, boxRow.froz hB3 2, (boxRow.lt hB3).2⟩
/-- one more event, of a row beside -/
theorem RefAt.pushE {a : Option Addr} {nq c : Nat} {q : List Ev} (h : RefAt w0 w R t log m way (pre ++ evRow (.slice a nq c) q :: post)) (hl : q.length ≤ 1000000) (ty : TypeId) (x : Ev) :
    ∃ a' n' c' w', (Builtin.append_ #[70, 70] ty #[.slice a nq c, .slice (some ⟨w.heap.size, 0, none⟩) 1 1]).run Try.prog (w.alloc (.cells #[.int .i64 x.time, .int .i64 x.place, .int .i64 x.n] 74)) = .ok (.slice a' n' c') w' ∧
      RefAt w0 w' R t log m way (pre ++ evRow (.slice a' n' c') (q ++ [x]) :: post) ∧ n' = (q ++ [x]).length := by
  have hF : OwnE w0.heap.size w (.slice a nq c) q := h.mem (r := evRow (.slice a nq c) q) (by simp)
  obtain ⟨v', w', hr, ho, hk, hv⟩ := run_push_ev ty x hF hl h.low.size
  obtain ⟨a', c', rfl⟩ := own_form ho
  refine ⟨a', _, c', w', hr, RefAt.swap (r := evRow (.slice a nq c) q) h hk ho ?_, rfl⟩
  rcases hv with e | e
  · exact .inl e
  · exact .inr ⟨_, e, by omega⟩
theorem RefAt.evs {a : Option Addr} {nq c : Nat} {q : List Ev} (h : RefAt w0 w R t log m way more) (hm : evRow (.slice a nq c) q ∈ more) : EvsAt w (.slice a nq c) q := RowAt.of_own (h.mem hm)
end

/-- a loop is left at its end, or by the function's own -/
def outPost (k : Nat) (N M : Act → World → Prop) : Exit → Act → World → Prop
  | .exit j, a, w => j = k ∧ N a w
  | .ret, a, w => M a w
  | _, _, _ => False
theorem loop_of {P : Program} {c : Code} {Q : Exit → Act → World → Prop} {a : Act} {w : World} (k : Nat) (h : c.wp P (outPost k (fun a w => Q (.exit k) a w) (fun a w => Q .ret a w)) a w) : c.wp P Q a w :=
  wp_mono h (fun e a w h => by
    cases e with
    | exit j => obtain ⟨h1, h2⟩ := h; subst h1; exact h2
    | ret => exact h
    | _ => exact h.elim)

/-- the loops of a code, outermost first -/
def loopsR : Code → List Code
  | .loop c => c :: loopsR c
  | .seq a b => loopsR a ++ loopsR b
  | .block _ c => loopsR c
  | .scope c => loopsR c
  | .cond _ a b => loopsR a ++ loopsR b
  | _ => []
end Go.Proofs.Ytpbbdnicafifpaa
