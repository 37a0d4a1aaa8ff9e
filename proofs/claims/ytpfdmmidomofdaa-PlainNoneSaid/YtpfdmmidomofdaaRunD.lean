/-
  A run's box beside others: one more event, one more firing. What refuse comes to.
  Conditions: none beyond each theorem's own.
-/
import Derived.Test.YtpfdmmidomofdaaRunC
namespace Go.Proofs.Ytpfdmmidomofdaa
open Go.RowKit
set_option linter.unusedVariables false

section
variable {w0 w w' w2 : World} {b bm nm cm : Nat} {vp vt : Value} {t : Int} {s : St} {more more' : List Row}
theorem RunAt.low (h : RunAt w0 w b vp vt bm nm cm t s more) : Below w0.heap.size w0 w := by
  obtain ⟨_, _, _, h2⟩ := h; exact h2
theorem RunAt.cells (h : RunAt w0 w b vp vt bm nm cm t s more) : w.cell? ⟨b, 0, none⟩ = some vp ∧ w.cell? ⟨b, 1, none⟩ = some vt ∧ w.cell? ⟨b, 3, none⟩ = some (.slice (some ⟨bm, 0, none⟩) nm cm) ∧ w.cell? ⟨b, 5, none⟩ = some (.int .i64 t) ∧ b < w.heap.size ∧ w0.heap.size ≤ b ∧ w0.heap.size ≤ bm ∧ bm < w.heap.size := by
  obtain ⟨vl, vq, h1, h2⟩ := h
  have hB := h1.own (boxRow b 81 (runCs vp vt vl (.slice (some ⟨bm, 0, none⟩) nm cm) vq t)) (by simp)
  have hM := Row.lt (h1.own (intRow (.slice (some ⟨bm, 0, none⟩) nm cm) s.m) (by simp)) (k := bm) rfl
  exact ⟨boxRow.cell hB rfl, boxRow.cell hB rfl, boxRow.cell hB rfl, boxRow.cell hB rfl, (boxRow.lt hB).2, (boxRow.lt hB).1, hM.1, hM.2⟩
theorem RunAt.log (h : RunAt w0 w b vp vt bm nm cm t s more) : ∃ a c, w.cell? ⟨b, 2, none⟩ = some (.slice a s.log.length c) ∧ OwnF w0.heap.size w (.slice a s.log.length c) s.log := by
  obtain ⟨vl, vq, h1, h2⟩ := h
  have hB := h1.own (boxRow b 81 (runCs vp vt vl (.slice (some ⟨bm, 0, none⟩) nm cm) vq t)) (by simp)
  have hF : OwnF w0.heap.size w vl s.log := h1.own (fiRow vl s.log) (by simp)
  obtain ⟨a, c, rfl⟩ := own_form hF
  exact ⟨a, c, boxRow.cell hB rfl, hF⟩
theorem RunAt.way (h : RunAt w0 w b vp vt bm nm cm t s more) : ∃ a c, w.cell? ⟨b, 4, none⟩ = some (.slice a s.q.length c) ∧ OwnE w0.heap.size w (.slice a s.q.length c) s.q := by
  obtain ⟨vl, vq, h1, h2⟩ := h
  have hB := h1.own (boxRow b 81 (runCs vp vt vl (.slice (some ⟨bm, 0, none⟩) nm cm) vq t)) (by simp)
  have hF : OwnE w0.heap.size w vq s.q := h1.own (evRow vq s.q) (by simp)
  obtain ⟨a, c, rfl⟩ := own_form hF
  exact ⟨a, c, boxRow.cell hB rfl, hF⟩
theorem RunAt.ints (h : RunAt w0 w b vp vt bm nm cm t s more) : OwnI w0.heap.size w (.slice (some ⟨bm, 0, none⟩) nm cm) s.m := by
  obtain ⟨vl, vq, h1, h2⟩ := h
  exact h1.own (intRow (.slice (some ⟨bm, 0, none⟩) nm cm) s.m) (by simp)
theorem RunAt.mem (h : RunAt w0 w b vp vt bm nm cm t s more) {r : Row} (hr : r ∈ more) : r.own w0.heap.size w := by
  obtain ⟨vl, vq, h1, h2⟩ := h
  exact h1.own r (by simp [hr])
theorem RunAt.sub (h : RunAt w0 w b vp vt bm nm cm t s more) (hs : more'.Sublist more) : RunAt w0 w b vp vt bm nm cm t s more' := by
  obtain ⟨vl, vq, h1, h2⟩ := h
  exact ⟨vl, vq, h1.sub ((((hs.cons_cons _).cons_cons _).cons_cons _).cons_cons _), h2⟩
/-- one more row beside, all new -/
theorem RunAt.add (h : RunAt w0 w b vp vt bm nm cm t s more) (hb : Below w.heap.size w w') {r : Row} (hr : r.own w0.heap.size w') (hf : ∀ k, r.v.ownBlock = some k → w.heap.size ≤ k) : RunAt w0 w' b vp vt bm nm cm t s (more ++ [r]) := by
  obtain ⟨vl, vq, h1, h2⟩ := h
  exact ⟨vl, vq, by simpa using h1.add hb hr hf, h2.trans (hb.mono h2.size)⟩
theorem RunAt.box (h : RunAt w0 w b vp vt bm nm cm t s more) (cs : Array Value) (ty : TypeId) : RunAt w0 (w.alloc (.cells cs ty)) b vp vt bm nm cm t s (more ++ [boxRow w.heap.size ty cs.toList]) :=
  h.add ((Below.refl _ _).alloc (Nat.le_refl _) _) (boxRow.new _ w ty cs h.low.size) (fun k e => by injection e with e; subst e; exact Nat.le_refl _)
/-- the last of the rows beside is turned, and nothing else -/
theorem RunAt.turn {r : Row} (h : RunAt w0 w b vp vt bm nm cm t s (more ++ [r])) {r' : Row} (hk : Kept (fun k => r.v.ownBlock = some k) w w') (hr : r'.own w0.heap.size w') (hv : r'.v.ownBlock = r.v.ownBlock) : RunAt w0 w' b vp vt bm nm cm t s (more ++ [r']) := by
  obtain ⟨vl, vq, h1, h2⟩ := h
  have hlo : ∀ k, r.v.ownBlock = some k → w0.heap.size ≤ k := fun k e => (Row.lt (h1.own r (by simp)) e).1
  refine ⟨vl, vq, ?_, h2.trans (hk.below hlo h2.size)⟩
  have := AllOwn.swap (pre := boxRow b 81 (runCs vp vt vl (.slice (some ⟨bm, 0, none⟩) nm cm) vq t) :: fiRow vl s.log :: intRow (.slice (some ⟨bm, 0, none⟩) nm cm) s.m :: evRow vq s.q :: more) (r := r) (post := []) (by simpa using h1) hk hr (.inl hv)
  simpa using this
/-- the tokens are turned, and nothing else -/
theorem RunAt.take {m' : List Int} (h : RunAt w0 w b vp vt bm nm cm t s more) (ho : OwnI w0.heap.size w' (.slice (some ⟨bm, 0, none⟩) nm cm) m') (hk : Kept (fun k => k = bm) w w') : RunAt w0 w' b vp vt bm nm cm t ⟨s.log, m', s.q⟩ more := by
  have hbm := h.cells.2.2.2.2.2.2.1
  obtain ⟨vl, vq, h1, h2⟩ := h
  exact ⟨vl, vq, AllOwn.swap (pre := [boxRow b 81 (runCs vp vt vl (.slice (some ⟨bm, 0, none⟩) nm cm) vq t), fiRow vl s.log]) (r := intRow (.slice (some ⟨bm, 0, none⟩) nm cm) s.m) (r' := intRow (.slice (some ⟨bm, 0, none⟩) nm cm) m') (post := evRow vq s.q :: more) h1 (hk.mono (fun j _ e => by subst e; rfl)) ho (.inl rfl), h2.trans (hk.below (fun j e => by subst e; exact hbm) h2.size)⟩
/-- the time is set -/
theorem RunAt.time (h : RunAt w0 w b vp vt bm nm cm t s more) (t' : Int) : RunAt w0 (w.setCell ⟨b, 5, none⟩ (.int .i64 t')) b vp vt bm nm cm t' s more ∧ w.frozen? ⟨b, 5, none⟩ = false := by
  have hb := h.cells.2.2.2.2.2.1
  obtain ⟨vl, vq, h1, h2⟩ := h
  have h3 := AllOwn.store (pre := []) (b := b) (t := 81) (cs := runCs vp vt vl (.slice (some ⟨bm, 0, none⟩) nm cm) vq t) h1 5 (.int .i64 t')
  exact ⟨⟨vl, vq, h3.1, h2.trans (h3.2.below (fun j e => by subst e; exact hb) h2.size)⟩, boxRow.froz (h1.own (boxRow b 81 (runCs vp vt vl (.slice (some ⟨bm, 0, none⟩) nm cm) vq t)) (by simp)) 5⟩
/-- one more firing -/
theorem RunAt.pushF (h : RunAt w0 w b vp vt bm nm cm t s more) (hl : s.log.length ≤ 1000000) (ty : TypeId) (x y : Int) {a : Option Addr} {c : Nat} (hc : w.cell? ⟨b, 2, none⟩ = some (.slice a s.log.length c)) :
    ∃ a' n' c' w', (Builtin.append_ #[33, 33] ty #[.slice a s.log.length c, .slice (some ⟨w.heap.size, 0, none⟩) 1 1]).run Try.prog (w.alloc (.cells #[.int .i64 x, .int .i64 y] 72)) = .ok (.slice a' n' c') w' ∧
      RunAt w0 (w'.setCell ⟨b, 2, none⟩ (.slice a' n' c')) b vp vt bm nm cm t ⟨s.log ++ [(x, y)], s.m, s.q⟩ more ∧ w'.cell? ⟨b, 2, none⟩ = some (.slice a s.log.length c) ∧ w'.frozen? ⟨b, 2, none⟩ = false ∧ b < w'.heap.size := by
  have hb := h.cells.2.2.2.2.2.1
  obtain ⟨vl, vq, h1, h2⟩ := h
  have hB := h1.own (boxRow b 81 (runCs vp vt vl (.slice (some ⟨bm, 0, none⟩) nm cm) vq t)) (by simp)
  have hF : OwnF w0.heap.size w vl s.log := h1.own (fiRow vl s.log) (by simp)
  have e : w.cell? ⟨b, 2, none⟩ = some vl := boxRow.cell hB rfl
  rw [e] at hc
  injection hc with hc
  subst hc
  obtain ⟨v', w', hr, ho, hk, hv⟩ := run_push_fi ty x y hF hl h2.size
  obtain ⟨a', n', c', rfl⟩ := own_form3 ho
  have h3 := AllOwn.swap (pre := [boxRow b 81 (runCs vp vt (.slice a s.log.length c) (.slice (some ⟨bm, 0, none⟩) nm cm) vq t)]) (r := fiRow (.slice a s.log.length c) s.log) (r' := fiRow (.slice a' n' c') (s.log ++ [(x, y)])) h1 hk ho (by
    rcases hv with e | e
    · exact .inl e
    · exact .inr ⟨_, e, by omega⟩)
  have hlo : ∀ k, (Value.slice a s.log.length c).ownBlock = some k → w0.heap.size ≤ k := fun k e => (Row.lt (r := fiRow (.slice a s.log.length c) s.log) hF e).1
  have hB3 := h3.own (boxRow b 81 (runCs vp vt (.slice a s.log.length c) (.slice (some ⟨bm, 0, none⟩) nm cm) vq t)) (by simp)
  have h4 := AllOwn.store (pre := []) (b := b) (t := 81) (cs := runCs vp vt (.slice a s.log.length c) (.slice (some ⟨bm, 0, none⟩) nm cm) vq t) h3 2 (.slice a' n' c')
  have h5 := h2.trans (hk.below hlo h2.size)
  exact ⟨a', n', c', w', hr, ⟨_, vq, h4.1, h5.trans (h4.2.below (fun j e => by subst e; exact hb) h5.size)⟩, boxRow.cell hB3 rfl, boxRow.froz hB3 2, (boxRow.lt hB3).2⟩
/-- one more event -/
theorem RunAt.pushE (h : RunAt w0 w b vp vt bm nm cm t s more) (hl : s.q.length ≤ 1000000) (ty : TypeId) (x : Ev) {a : Option Addr} {c : Nat} (hc : w.cell? ⟨b, 4, none⟩ = some (.slice a s.q.length c)) :
    ∃ a' n' c' w', (Builtin.append_ #[61, 61] ty #[.slice a s.q.length c, .slice (some ⟨w.heap.size, 0, none⟩) 1 1]).run Try.prog (w.alloc (.cells #[.int .i64 x.time, .int .i64 x.place, .int .i64 x.n] 65)) = .ok (.slice a' n' c') w' ∧
      RunAt w0 (w'.setCell ⟨b, 4, none⟩ (.slice a' n' c')) b vp vt bm nm cm t ⟨s.log, s.m, s.q ++ [x]⟩ more ∧ w'.cell? ⟨b, 4, none⟩ = some (.slice a s.q.length c) ∧ w'.frozen? ⟨b, 4, none⟩ = false ∧ b < w'.heap.size := by
  have hb := h.cells.2.2.2.2.2.1
  obtain ⟨vl, vq, h1, h2⟩ := h
  have hB := h1.own (boxRow b 81 (runCs vp vt vl (.slice (some ⟨bm, 0, none⟩) nm cm) vq t)) (by simp)
  have hF : OwnE w0.heap.size w vq s.q := h1.own (evRow vq s.q) (by simp)
  have e : w.cell? ⟨b, 4, none⟩ = some vq := boxRow.cell hB rfl
  rw [e] at hc
  injection hc with hc
  subst hc
  obtain ⟨v', w', hr, ho, hk, hv⟩ := run_push_ev ty x hF hl h2.size
  obtain ⟨a', n', c', rfl⟩ := own_form3 ho
  have h3 := AllOwn.swap (pre := [boxRow b 81 (runCs vp vt vl (.slice (some ⟨bm, 0, none⟩) nm cm) (.slice a s.q.length c) t), fiRow vl s.log, intRow (.slice (some ⟨bm, 0, none⟩) nm cm) s.m]) (r := evRow (.slice a s.q.length c) s.q) (r' := evRow (.slice a' n' c') (s.q ++ [x])) h1 hk ho (by
    rcases hv with e | e
    · exact .inl e
    · exact .inr ⟨_, e, by omega⟩)
  have hlo : ∀ k, (Value.slice a s.q.length c).ownBlock = some k → w0.heap.size ≤ k := fun k e => (Row.lt (r := evRow (.slice a s.q.length c) s.q) hF e).1
  have hB3 := h3.own (boxRow b 81 (runCs vp vt vl (.slice (some ⟨bm, 0, none⟩) nm cm) (.slice a s.q.length c) t)) (by simp)
  have h4 := AllOwn.store (pre := []) (b := b) (t := 81) (cs := runCs vp vt vl (.slice (some ⟨bm, 0, none⟩) nm cm) (.slice a s.q.length c) t) h3 4 (.slice a' n' c')
  have h5 := h2.trans (hk.below hlo h2.size)
  exact ⟨a', n', c', w', hr, ⟨vl, _, h4.1, h5.trans (h4.2.below (fun j e => by subst e; exact hb) h5.size)⟩, boxRow.cell hB3 rfl, boxRow.froz hB3 4, (boxRow.lt hB3).2⟩
end

/-- which error there is, ahead of a firing -/
def refuseN (s : St) (f : Int) : Int := if 20 ≤ f then 4 else if 2000 ≤ s.log.length then 5 else 0

set_option maxRecDepth 100000 in
set_option maxHeartbeats 4000000 in
theorem refuse_any {n : Nt} {w0 w : World} {b bm nm cm np nt cp ct i : Nat} {ap at_ : Option Addr} {t f q : Int} {s : St} {more : List Row} {x : Tr} (hnt : nt = n.trans.length) (hnet : NetAt w0 (.slice ap np cp) (.slice at_ nt ct) n) (hx : n.trans[i]? = some x) (hd : 0 ≤ x.delay ∧ x.delay ≤ 1000000) (ht : 0 ≤ t ∧ t ≤ 2000000000) (h : RunAt w0 w b (.slice ap np cp) (.slice at_ nt ct) bm nm cm t s more) (hq : q = refuseN s f) :
    Calls Try.prog 85 #[.pointer (some ⟨b, 0, none⟩), .int .i64 i, .int .i64 f] w fun e w' => e = .returned (.int .i64 q) ∧ Below w.heap.size w w' := by
  obtain ⟨_, l, hl, htr⟩ := hnet.below h.low
  obtain ⟨g, off, a1, c1, a2, c2, a3, c3, rfl, hgw, e0, e1, e2, e3, e4, e5, _, _, _⟩ := htr.at_ (i := i) (t := x) (by rw [hl]; exact hx)
  obtain ⟨k0, k1, k3, k5, kb, _⟩ := h.cells
  obtain ⟨al, cl, k2, hF⟩ := h.log
  have hlt : i < nt := by rw [hnt]; exact lt_at hx
  have hlti : (i : Int) < (nt : Int) := by omega
  have hlmax : s.log.length ≤ 9223372036854775807 := by
    have := RowAt.max (RowAt.of_own hF); omega
  obtain ⟨ll, hll⟩ : ∃ k, k = s.log.length := ⟨_, rfl⟩
  unfold refuseN at hq
  rw [← hll] at k2 hq hlmax
  have hw : IntKind.i64.wrap (t + x.delay) = t + x.delay := IntWalk.i64_in _ (by omega)
  have htm : ¬ (1099511627776 : Int) < t + x.delay := by omega
  have htmb : decide ((1099511627776 : Int) < t + x.delay) = false := decide_eq_false htm
  have hlo : -9223372036854775808 ≤ t + x.delay := by omega
  have hhi : t + x.delay ≤ 9223372036854775807 := by omega
  obtain ⟨dl, hdl⟩ : ∃ k, k = x.delay := ⟨_, rfl⟩
  obtain ⟨pr, hpr⟩ : ∃ k, k = x.prio := ⟨_, rfl⟩
  obtain ⟨sx, hsx⟩ : ∃ k, k = x.name := ⟨_, rfl⟩
  obtain ⟨n1, hn1⟩ : ∃ k, k = x.inn.length := ⟨_, rfl⟩
  obtain ⟨n2, hn2⟩ : ∃ k, k = x.nt.length := ⟨_, rfl⟩
  obtain ⟨n3, hn3⟩ : ∃ k, k = x.out.length := ⟨_, rfl⟩
  rw [← hdl] at e1 hw htm htmb hlo hhi
  rw [← hpr] at e2
  rw [← hsx] at e0
  rw [← hn1] at e3
  rw [← hn2] at e4
  rw [← hn3] at e5
  have Hb := Lib.hid ((Below.refl w.heap.size w).alloc (Nat.le_refl _) (.cells #[.string sx, .int .i64 dl, .int .i64 pr, .slice a1 n1 c1, .slice a2 n2 c2, .slice a3 n3 c3] 46))
  clear hnet h hl htr hF hx hnt hll hdl hpr hsx hn1 hn2 hn3 hd ht
  by_cases g1 : 20 ≤ f
  · obtain rfl : q = 4 := by rw [hq, if_pos g1]
    clear hq
    go_enter Try.func85, Try.ntmps85
    go_wp2
    go_ret
    exact ⟨rfl, Hb.out⟩
  rw [if_neg g1] at hq
  have g1b : decide ((20 : Int) ≤ f) = false := decide_eq_false g1
  by_cases g2 : 2000 ≤ ll
  · obtain rfl : q = 5 := by rw [hq, if_pos g2]
    have g2i : (2000 : Int) ≤ (ll : Int) := by omega
    clear hq
    go_enter Try.func85, Try.ntmps85
    go_wp2
    go_ret
    exact ⟨rfl, Hb.out⟩
  obtain rfl : q = 0 := by rw [hq, if_neg g2]
  have g2i : ¬ (2000 : Int) ≤ (ll : Int) := by omega
  have g2b : decide ((2000 : Int) ≤ (ll : Int)) = false := decide_eq_false g2i
  clear hq
  by_cases g3 : 0 < n3
  · have g3i : (0 : Int) < (n3 : Int) := by omega
    go_enter Try.func85, Try.ntmps85
    go_wp2
    go_quiet (fail)
    go_wp2
    go_ret
    exact ⟨rfl, Hb.out.trans ((drewNb _ _).mono Hb.out.size)⟩
  · have g3i : ¬ (0 : Int) < (n3 : Int) := by omega
    have g3b : decide ((0 : Int) < (n3 : Int)) = false := decide_eq_false g3i
    go_enter Try.func85, Try.ntmps85
    go_wp2
    go_quiet (fail)
    go_wp2
    go_ret
    exact ⟨rfl, Hb.out.trans ((drewNb _ _).mono Hb.out.size)⟩
end Go.Proofs.Ytpfdmmidomofdaa
