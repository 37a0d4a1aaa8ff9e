/-
  A transition in the engine's own net; what taking its tokens turns; all that look at those places are queued.
  Conditions: none beyond each theorem's own.
-/
import Derived.Test.YtpbbdnicafifpaaEgG
namespace Go.Proofs.Ytpbbdnicafifpaa
open Go.RowKit
set_option linter.unusedVariables false

section
variable {w0 w : World} {c : EC} {e : Eg}
/-- a transition's cells; its first list lies apart from the tokens -/
theorem EgAt.trAt (h : EgAt w0 w c e) (hl : c.l.map (·.1) = c.n.trans) {i : Nat} {x : Tr} (hx : c.n.trans[i]? = some x) :
    ∃ g off cap a1 c1 a2 c2 a3 c3, c.vt = .slice (some ⟨g, off, none⟩) c.n.trans.length cap ∧ g < w.heap.size ∧ w.cell? ⟨g, off + i * 6, none⟩ = some (.string x.name) ∧ w.cell? ⟨g, off + i * 6 + 1, none⟩ = some (.int .i64 x.delay) ∧ w.cell? ⟨g, off + i * 6 + 2, none⟩ = some (.int .i64 x.prio) ∧
      w.cell? ⟨g, off + i * 6 + 3, none⟩ = some (.slice a1 x.inn.length c1) ∧ w.cell? ⟨g, off + i * 6 + 4, none⟩ = some (.slice a2 x.nt.length c2) ∧ w.cell? ⟨g, off + i * 6 + 5, none⟩ = some (.slice a3 x.out.length c3) ∧
      (∀ (w' : World) (e' : Eg), EgAt w0 w' c e' → ArcsAt w' (.slice a1 x.inn.length c1) x.inn ∧ ArcsAt w' (.slice a3 x.out.length c3) x.out) ∧ OffBlock (.slice a1 x.inn.length c1) c.bm := by
  have hmem : ∀ r ∈ netRows c.vp c.vt c.n.places c.l, r ∈ c.fix := fun r hr => by
    unfold EC.fix
    exact List.mem_cons_of_mem _ (List.mem_cons_of_mem _ (List.mem_append_right _ (List.mem_append_left _ hr)))
  have hi : (c.l.map (·.1))[i]? = some x := by rw [hl]; exact hx
  rw [List.getElem?_map] at hi
  obtain ⟨y, hy, rfl⟩ := Option.map_eq_some_iff.1 hi
  have hrow : ∀ r ∈ arcRows y, r ∈ c.fix := fun r hr => hmem r (by
    unfold netRows
    rw [List.mem_cons, List.mem_cons]
    exact .inr (.inr (List.mem_flatMap.2 ⟨y, List.mem_of_getElem? hy, hr⟩)))
  have hT : RowAt 6 w c.vt c.l.length (c.l.flatMap trL) := RowAt.of_own (h.fixed (hmem (trRow c.vt c.l) (by simp [netRows])))
  obtain ⟨at_, ct, et⟩ := RowAt.len hT
  rw [et] at hT
  obtain ⟨b, off, e1, hb, hc⟩ := RowAt.elem trL_len hT hy
  obtain ⟨t, v1, v2, v3⟩ := y
  have g1 : ∀ (w' : World) (e' : Eg), EgAt w0 w' c e' → ArcsAt w' v1 t.inn := fun w' e' h' => RowAt.of_own (h'.fixed (hrow (arcRow v1 t.inn) (by simp [arcRows])))
  have g2 : ∀ (w' : World) (e' : Eg), EgAt w0 w' c e' → ArcsAt w' v2 t.nt := fun w' e' h' => RowAt.of_own (h'.fixed (hrow (arcRow v2 t.nt) (by simp [arcRows])))
  have g3 : ∀ (w' : World) (e' : Eg), EgAt w0 w' c e' → ArcsAt w' v3 t.out := fun w' e' h' => RowAt.of_own (h'.fixed (hrow (arcRow v3 t.out) (by simp [arcRows])))
  obtain ⟨a1, c1, f1⟩ := RowAt.len (g1 w e h)
  obtain ⟨a2, c2, f2⟩ := RowAt.len (g2 w e h)
  obtain ⟨a3, c3, f3⟩ := RowAt.len (g3 w e h)
  subst f1 f2 f3
  have hlen : c.n.trans.length = c.l.length := by rw [← hl, List.length_map]
  refine ⟨b, off, ct, a1, c1, a2, c2, a3, c3, by rw [et, e1, hlen], hb, hc 0 _ rfl, hc 1 _ rfl, hc 2 _ rfl, hc 3 _ rfl, hc 4 _ rfl, hc 5 _ rfl, fun w' e' h' => ⟨g1 w' e' h', g3 w' e' h'⟩, ?_⟩
  obtain ⟨vd, vr, vo, vl, h1, h2⟩ := h
  have hown := h1.own (arcRow (.slice a1 t.inn.length c1) t.inn) (by simp [hrow (arcRow (.slice a1 t.inn.length c1) t.inn) (by simp [arcRows])])
  intro k hk hkb
  obtain ⟨b', o', n', c', e2, rfl⟩ := hk
  have hap := h1.apart
  unfold egRows at hap
  rw [List.pairwise_append] at hap
  have hA := hap.2.2 (intRow c.vm e.m) (by simp) (arcRow (.slice a1 t.inn.length c1) t.inn) (hrow (arcRow (.slice a1 t.inn.length c1) t.inn) (by simp [arcRows]))
  rcases hown.2 with ⟨h3, _⟩ | ⟨r, cap, cur, h3, _⟩
  · have h4 : Value.slice a1 t.inn.length c1 = .slice none 0 0 := h3
    rw [h4] at e2; cases e2
  · have h4 : Value.slice a1 t.inn.length c1 = .slice (some ⟨r, 0, none⟩) t.inn.length cap := h3
    rw [h4] at e2
    injection e2 with e2
    injection e2 with e2
    injection e2 with e2 _ _
    refine hA c.bm rfl ?_
    show (Value.slice a1 t.inn.length c1).ownBlock = some c.bm
    rw [h4, e2, hkb]; rfl
end

/-- who looks at a place -/
def esOf (c : EC) (p : Int) : List Int := match c.es[p.toNat]? with | some x => x.2 | none => []
def wakeA (c : EC) (l : List (Int × Int)) (qd : List Bool) : List Bool := l.foldl (fun q a => wakeQ (esOf c a.1) q) qd
theorem esOf_at {c : EC} {p : Nat} {v : Value} {es : List Int} (h : c.es[p]? = some (v, es)) : esOf c (p : Int) = es := by
  unfold esOf; rw [Int.toNat_natCast, h]
theorem wakeA_take {c : EC} {l : List (Int × Int)} {qd : List Bool} {k : Nat} {a : Int × Int} (h : l[k]? = some a) : wakeA c (l.take (k + 1)) qd = wakeQ (esOf c a.1) (wakeA c (l.take k) qd) := by
  unfold wakeA; rw [take_at h, List.foldl_append]; rfl
theorem wakeA_len (c : EC) (l : List (Int × Int)) : ∀ qd : List Bool, (wakeA c l qd).length = qd.length := by
  induction l with
  | nil => intro qd; rfl
  | cons a l ih => intro qd; unfold wakeA at *; rw [List.foldl_cons, ih, wakeQ_len]
section
variable {c : EC} {mine : Nat → Bool}
theorem esOf_in (hE : EyesOk c mine) (p : Int) : ∀ j ∈ esOf c p, (0 ≤ j ∧ j < (c.n.trans.length : Int)) ∧ mine j.toNat = true := by
  unfold esOf
  intro j hj
  cases h : c.es[p.toNat]? with
  | none => rw [h] at hj; cases hj
  | some x => rw [h] at hj; obtain ⟨v, es⟩ := x; exact (hE.all _ v es h).1 j hj
theorem wakeA_old (hE : EyesOk c mine) (l : List (Int × Int)) : ∀ (qd : List Bool) (i : Nat), qd.length = c.n.trans.length → qB qd i = true → qB (wakeA c l qd) i = true := by
  induction l with
  | nil => intro qd i _ h; exact h
  | cons a l ih =>
    intro qd i hl h
    have := ih (wakeQ (esOf c a.1) qd) i (by rw [wakeQ_len]; exact hl) (wakeQ_old _ qd i (fun j hj => by have := (esOf_in hE a.1 j hj).1; omega) h)
    exact this
theorem wakeA_own (hE : EyesOk c mine) (l : List (Int × Int)) : ∀ (qd : List Bool) (i : Nat), qd.length = c.n.trans.length → qB (wakeA c l qd) i = true → qB qd i = true ∨ mine i = true := by
  induction l with
  | nil => intro qd i _ h; exact .inl h
  | cons a l ih =>
    intro qd i hl h
    rcases ih (wakeQ (esOf c a.1) qd) i (by rw [wakeQ_len]; exact hl) h with h1 | h1
    · rcases wakeQ_own _ qd i (fun j hj => by have := (esOf_in hE a.1 j hj).1; omega) h1 with h2 | ⟨j, hj, e⟩
      · exact .inl h2
      · refine .inr ?_; rw [← e]; exact (esOf_in hE a.1 j hj).2
    · exact .inr h1
theorem wakeA_new (hn : NOk c.n) (hE : EyesOk c mine) (l : List (Int × Int)) : ∀ (qd : List Bool) (i : Nat) (x : Tr) (a : Int × Int), qd.length = c.n.trans.length → c.n.trans[i]? = some x → mine i = true → a ∈ l → looks x a.1 → qB (wakeA c l qd) i = true := by
  induction l with
  | nil => intro qd i x a _ _ _ h; cases h
  | cons b l ih =>
    intro qd i x a hl hx hm ha hlk
    rcases List.mem_cons.1 ha with rfl | ha
    · refine wakeA_old hE l (wakeQ (esOf c a.1) qd) i (by rw [wakeQ_len]; exact hl) (wakeQ_new _ qd i (fun j hj => by have := (esOf_in hE a.1 j hj).1; omega) ?_)
      have hmx := hn.at_ hx
      have hp : 0 ≤ a.1 ∧ a.1 < (c.n.places.length : Int) := by
        rcases hlk with ⟨y, hy, e⟩ | ⟨y, hy, e⟩
        · rw [← e]; exact (hn.inn x hmx y hy).1
        · rw [← e]; exact (hn.nt x hmx y hy).1
      obtain ⟨⟨v, es⟩, hes⟩ := at_lt (l := c.es) (k := a.1.toNat) (by rw [hE.len]; omega)
      have e1 : esOf c a.1 = es := by unfold esOf; rw [hes]
      have e2 : a.1 = (a.1.toNat : Int) := by omega
      rw [e1]
      rw [e2] at hlk
      exact (hE.all _ v es hes).2 i x hx hm hlk
    · exact ih (wakeQ (esOf c b.1) qd) i x a (by rw [wakeQ_len]; exact hl) hx hm ha hlk
theorem takeL_other (li : List (Int × Int)) : ∀ (m : List Int) (p : Int), (∀ a ∈ li, a.1.toNat ≠ p.toNat) → getI (takeL li m) p = getI m p := by
  induction li with
  | nil => intro m p _; rfl
  | cons a l ih =>
    intro m p h
    have := ih (stepT m a) p (fun b hb => h b (by simp [hb]))
    refine Eq.trans this ?_
    unfold getI stepT
    rw [List.getD_eq_getElem?_getD, List.getD_eq_getElem?_getD, List.getElem?_set_ne (h a (by simp))]
/-- its tokens are taken, and all that look at those places are queued -/
theorem cov_take (hn : NOk c.n) (hE : EyesOk c mine) {m : List Int} {qd : List Bool} (hC : Cov c.n.trans mine m qd) (hl : qd.length = c.n.trans.length) {x : Tr} (hx : x ∈ c.n.trans) : Cov c.n.trans mine (takeL x.inn m) (wakeA c x.inn qd) := by
  refine hC.turn (fun q => ∃ a ∈ x.inn, a.1.toNat = q.toNat) (fun q hq => takeL_other _ m q (fun a ha e => hq ⟨a, ha, e⟩)) (fun i h => wakeA_old hE _ qd i hl h) (fun i y q hy hm hq hlk => ?_) (fun i h => ?_)
  · obtain ⟨a, ha, e⟩ := hq
    have h1 := looks_pos hn hy hlk
    have h2 := (hn.inn x hx a ha).1.1
    have e1 : q = a.1 := by omega
    rw [e1] at hlk
    exact wakeA_new hn hE _ qd i y a hl hy hm ha hlk
  · rcases wakeA_own hE _ qd i hl h with h1 | h1
    · exact hC.own i h1
    · exact h1
end
end Go.Proofs.Ytpbbdnicafifpaa
