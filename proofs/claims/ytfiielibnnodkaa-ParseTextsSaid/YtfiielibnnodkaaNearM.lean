/-
  Lists of arcs appended to a new one; a list of a transition stored anew; drafts that came in.
  Conditions: none beyond each theorem's own.
-/
import Derived.Test.YtfiielibnnodkaaNearL
import Derived.Test.YtfiielibnnodkaaAppendSrc
import Derived.Test.YtfiielibnnodkaaNetIn
namespace Go.Proofs.Ytfiielibnnodkaa
open Go.RowKit
set_option linter.unusedVariables false
set_option maxRecDepth 100000

theorem RowAt.src {size n : Nat} {w : World} {v : Value} {xs : List Value} (h : RowAt size w v n xs) {tx e : TypeId} (ht : Try.prog.underlying tx = some (.slice e)) (h1 : ∀ u ∈ xs, u.oneCell' = true) : Src Try.prog size tx v n xs w := by
  obtain ⟨hl, a, cap, rfl, _, _, h3⟩ := h
  rcases h3 with h0 | ⟨b, off, rfl, hb, hc⟩
  · subst h0
    have : xs = [] := List.eq_nil_of_length_eq_zero (by simpa using hl)
    subst this
    cases a with
    | none => exact Src.ofNil w ht cap
    | some a => exact Src.ofSlice w ht a 0 cap [] (by simp) (fun j u hu => by simp at hu) h1
  · refine Src.ofSlice w ht ⟨b, off, none⟩ n cap xs hl ?_ h1
    intro j u hu
    have e2 : (⟨b, off, none⟩ : Addr).add j = ⟨b, off + j, none⟩ := by unfold Addr.add; split <;> simp_all
    rw [e2]
    exact hc j u hu

theorem arcs_one (l : List (Int × Int)) : ∀ u ∈ l.flatMap arcL, u.oneCell' = true := by
  intro u hu
  rw [List.mem_flatMap] at hu
  obtain ⟨a, _, ha⟩ := hu
  simp only [arcL, List.mem_cons, List.not_mem_nil, or_false] at ha
  rcases ha with rfl | rfl <;> rfl

/-- 'append(v, x...)', v a row of the call's own -/
theorem run_append_arcs {B : Nat} {w : World} {v x : Value} {l k : List (Int × Int)} (ty : TypeId) (h : OwnA B w v l) (hx : ArcsAt w x k) (hl : l.length + k.length ≤ 1000000) (hB : B ≤ w.heap.size) :
    ∃ v' w', (Builtin.append_ #[38, 38] ty #[v, x]).run Try.prog w = .ok v' w' ∧ OwnA B w' v' (l ++ k) ∧ Kept (fun q => v.ownBlock = some q) w w' := by
  obtain ⟨i0, hi0, hz0, hz1, hz2⟩ := info_parts Try.infoArc
  obtain ⟨v', w', hr, h2, h3⟩ := run_append_own_src (P := Try.prog) w B 38 38 ty 37 i0 _ 2 16 Try.underlying38 hi0 hz0 hz1 hz2 rfl (by omega) v l.length (l.flatMap arcL) h x k.length (k.flatMap arcL) (RowAt.src hx Try.underlying38 (arcs_one k)) (by unfold maxLen; omega) (by omega) hB
  exact ⟨v', w', hr, by rw [OwnA, List.flatMap_append, List.length_append]; exact h2, (Kept.refl _ w).grown h3 (fun _ h => h)⟩

/-- 'append([]Arc(nil), x...)': new, and nothing else turned -/
theorem run_clone_arcs {w : World} {x : Value} {k : List (Int × Int)} (ty : TypeId) (hx : ArcsAt w x k) (hl : k.length ≤ 1000000) :
    ∃ v' w', (Builtin.append_ #[38, 38] ty #[.slice none 0 0, x]).run Try.prog w = .ok v' w' ∧ OwnA w.heap.size w' v' k ∧ Below w.heap.size w w' := by
  obtain ⟨v', w', hr, h2, h3⟩ := run_append_arcs (B := w.heap.size) ty (l := []) (ownNil _ _ _ _) hx (by simpa using hl) (Nat.le_refl _)
  exact ⟨v', w', hr, by simpa using h2, h3.below (fun k e => by cases e) (Nat.le_refl _)⟩

section
variable {B : Nat} {w w' : World} {r r' : Row} {pre post : List Row}

/-- a row is put in another one's place: what it is of lies where that was, or is new -/
theorem AllOwn.swap2 (h : AllOwn B w (pre ++ r :: post)) (hk : Kept (fun k => r.v.ownBlock = some k) w w') (hr : r'.own B w') (hf : ∀ k, r'.v.ownBlock = some k → r.v.ownBlock = some k ∨ w.heap.size ≤ k) :
    AllOwn B w' (pre ++ r' :: post) := by
  have hp := h.apart
  rw [List.pairwise_append, List.pairwise_cons] at hp
  obtain ⟨p1, ⟨p2, p3⟩, p4⟩ := hp
  have hx : ∀ x : Row, x.own B w → Apart x r → x.own B w' := fun x hx ha => ownS hx hk (fun k h1 h2 => ha k h1 h2)
  have hn : ∀ x : Row, x.own B w → Apart x r → Apart x r' := by
    intro x hx ha k h1 h2
    rcases hf k h2 with e | e
    · exact ha k h1 e
    · have := (Row.lt hx h1).2; omega
  refine ⟨fun x hm => ?_, ?_⟩
  · rw [List.mem_append, List.mem_cons] at hm
    rcases hm with hm | rfl | hm
    · exact hx x (h.own x (by simp [hm])) (p4 x hm r (by simp))
    · exact hr
    · exact hx x (h.own x (by simp [hm])) (p2 x hm).symm
  · rw [List.pairwise_append, List.pairwise_cons]
    refine ⟨p1, ⟨fun x hm => (hn x (h.own x (by simp [hm])) (p2 x hm).symm).symm, p3⟩, fun a ha b hb => ?_⟩
    rw [List.mem_cons] at hb
    rcases hb with rfl | hb
    · exact hn a (h.own a (by simp [ha])) (p4 a ha r (by simp))
    · exact p4 a ha b (by simp [hb])
end

section
variable {B : Nat} {w w2 : World} {vp vt : Value} {ps : List Pl} {l : List (Tr × Value × Value × Value)} {X : Row}

/-- a new list in place of the third one -/
theorem AllOwn.newOut {b c : Nat} {t : Tr} {v1 v2 v3 u : Value} {out' : List (Int × Int)} (h : AllOwn B w (X :: netRows vp vt ps l)) (hv : vt = .slice (some ⟨b, 0, none⟩) l.length c) {i : Nat} (hi : l[i]? = some (t, v1, v2, v3)) (hB : B ≤ w.heap.size) (hb : Below w.heap.size w w2) (hu : OwnA w.heap.size w2 u out') :
    AllOwn B (w2.setCell ⟨b, i * 6 + 5, none⟩ u) (X :: netRows vp vt ps (l.set i (⟨t.name, t.delay, t.prio, t.inn, t.nt, out'⟩, v1, v2, u))) ∧ Kept (fun k => k = b) w2 (w2.setCell ⟨b, i * 6 + 5, none⟩ u) := by
  obtain ⟨e1, _⟩ := netRows_at (X := X) (vp := vp) (vt := vt) (ps := ps) (x' := (t, v1, v2, v3)) hi rfl
  rw [e1] at h
  have h1 : AllOwn B w2 ((X :: plRow vp ps :: trRow vt l :: (l.take i).flatMap arcRows ++ [arcRow v1 t.inn, arcRow v2 t.nt]) ++ arcRow u out' :: (l.drop (i + 1)).flatMap arcRows) :=
    AllOwn.swap2 (r := arcRow v3 t.out) (by simpa [arcRows] using h) (Kept.of_below hb) (own_mono hu hB) (fun k e => .inr (Row.lt (r := arcRow u out') hu e).1)
  have h2 := AllOwn.storeAt (pre := [X, plRow vp ps]) (r := trRow vt l) (post := (l.take i).flatMap arcRows ++ (arcRow v1 t.inn :: arcRow v2 t.nt :: arcRow u out' :: (l.drop (i + 1)).flatMap arcRows)) (r' := trRow vt (l.set i (⟨t.name, t.delay, t.prio, t.inn, t.nt, out'⟩, v1, v2, u))) (by simpa using h1) hv (i * 6 + 5) u rfl rfl rfl (by simp [trRow])
    (flat_set trL_len l i 5 (t, v1, v2, v3) (⟨t.name, t.delay, t.prio, t.inn, t.nt, out'⟩, v1, v2, u) u hi (by omega) rfl).symm
  refine ⟨?_, h2.2⟩
  have e2 : (l.set i (⟨t.name, t.delay, t.prio, t.inn, t.nt, out'⟩, v1, v2, u)).flatMap arcRows = (l.take i).flatMap arcRows ++ (arcRow v1 t.inn :: arcRow v2 t.nt :: arcRow u out' :: (l.drop (i + 1)).flatMap arcRows) := by
    rw [(set_split hi _).2, List.flatMap_append, List.flatMap_cons]; rfl
  unfold netRows
  rw [e2]
  exact h2.1

/-- a new list in place of the second one -/
theorem AllOwn.newNot {b c : Nat} {t : Tr} {v1 v2 v3 u : Value} {nt' : List (Int × Int)} (h : AllOwn B w (X :: netRows vp vt ps l)) (hv : vt = .slice (some ⟨b, 0, none⟩) l.length c) {i : Nat} (hi : l[i]? = some (t, v1, v2, v3)) (hB : B ≤ w.heap.size) (hb : Below w.heap.size w w2) (hu : OwnA w.heap.size w2 u nt') :
    AllOwn B (w2.setCell ⟨b, i * 6 + 4, none⟩ u) (X :: netRows vp vt ps (l.set i (⟨t.name, t.delay, t.prio, t.inn, nt', t.out⟩, v1, u, v3))) ∧ Kept (fun k => k = b) w2 (w2.setCell ⟨b, i * 6 + 4, none⟩ u) := by
  obtain ⟨e1, _⟩ := netRows_at (X := X) (vp := vp) (vt := vt) (ps := ps) (x' := (t, v1, v2, v3)) hi rfl
  rw [e1] at h
  have h1 : AllOwn B w2 ((X :: plRow vp ps :: trRow vt l :: (l.take i).flatMap arcRows ++ [arcRow v1 t.inn]) ++ arcRow u nt' :: (arcRow v3 t.out :: (l.drop (i + 1)).flatMap arcRows)) :=
    AllOwn.swap2 (r := arcRow v2 t.nt) (by simpa [arcRows] using h) (Kept.of_below hb) (own_mono hu hB) (fun k e => .inr (Row.lt (r := arcRow u nt') hu e).1)
  have h2 := AllOwn.storeAt (pre := [X, plRow vp ps]) (r := trRow vt l) (post := (l.take i).flatMap arcRows ++ (arcRow v1 t.inn :: arcRow u nt' :: arcRow v3 t.out :: (l.drop (i + 1)).flatMap arcRows)) (r' := trRow vt (l.set i (⟨t.name, t.delay, t.prio, t.inn, nt', t.out⟩, v1, u, v3))) (by simpa using h1) hv (i * 6 + 4) u rfl rfl rfl (by simp [trRow])
    (flat_set trL_len l i 4 (t, v1, v2, v3) (⟨t.name, t.delay, t.prio, t.inn, nt', t.out⟩, v1, u, v3) u hi (by omega) rfl).symm
  refine ⟨?_, h2.2⟩
  have e2 : (l.set i (⟨t.name, t.delay, t.prio, t.inn, nt', t.out⟩, v1, u, v3)).flatMap arcRows = (l.take i).flatMap arcRows ++ (arcRow v1 t.inn :: arcRow u nt' :: arcRow v3 t.out :: (l.drop (i + 1)).flatMap arcRows) := by
    rw [(set_split hi _).2, List.flatMap_append, List.flatMap_cons]; rfl
  unfold netRows
  rw [e2]
  exact h2.1
end

section
open Go.ChangeShapes Go.WideShapes Go.Deep Go.Joins
variable {H : Type} {enc : TypeId × Value → H} {w : World}

theorem cellsU8 : Try.prog.cellsOf 5 = 1 := by kernel_rfl
theorem cellsAct : Try.prog.cellsOf 56 = 7 := by kernel_rfl

theorem u8_nat {n : Int} (h : (Lit.int .u8 n).wf = true) : ∃ k : Nat, n = k ∧ k < 256 := by
  obtain ⟨h1, h2⟩ := bounds_u8 h
  exact ⟨n.toNat, by omega, by omega⟩

theorem tok_dec (n : Nat) (cs : List Value) (x : DataW H × List MemPlace) (h : DataW.trod enc Try.prog w 0 (fun _ => true) true n 5 cs = some x) : ∃ a, cs = tokL1 a ∧ a < 256 := by
  obtain ⟨a, rfl, _, hw⟩ := DataW.trod_int Try.underlying5 h
  obtain ⟨k, rfl, hk⟩ := u8_nat hw
  exact ⟨k, rfl, hk⟩

theorem act_dec (n : Nat) (cs : List Value) (x : DataW H × List MemPlace) (h : DataW.trod enc Try.prog w 0 (fun _ => true) true n 56 cs = some x) : ∃ a, cs = acL a ∧ a.ok := by
  obtain ⟨xs, m, _, _, hl, hx, hg⟩ := DataW.trod_struct Try.underlying56 h
  have h0 : DataW.trod enc Try.prog w 0 (fun _ => true) true m 5 ((cs.drop 0).take (Try.prog.cellsOf 5)) = xs[0]? := hg 0 _ rfl
  have h1 : DataW.trod enc Try.prog w 0 (fun _ => true) true m 5 ((cs.drop 1).take (Try.prog.cellsOf 5)) = xs[1]? := hg 1 _ rfl
  have h2 : DataW.trod enc Try.prog w 0 (fun _ => true) true m 5 ((cs.drop 2).take (Try.prog.cellsOf 5)) = xs[2]? := hg 2 _ rfl
  have h3 : DataW.trod enc Try.prog w 0 (fun _ => true) true m 5 ((cs.drop 3).take (Try.prog.cellsOf 5)) = xs[3]? := hg 3 _ rfl
  have h4 : DataW.trod enc Try.prog w 0 (fun _ => true) true m 5 ((cs.drop 4).take (Try.prog.cellsOf 5)) = xs[4]? := hg 4 _ rfl
  have h5 : DataW.trod enc Try.prog w 0 (fun _ => true) true m 5 ((cs.drop 5).take (Try.prog.cellsOf 5)) = xs[5]? := hg 5 _ rfl
  have h6 : DataW.trod enc Try.prog w 0 (fun _ => true) true m 5 ((cs.drop 6).take (Try.prog.cellsOf 5)) = xs[6]? := hg 6 _ rfl
  rw [cellsAct] at hl
  match cs, hl with
  | [c0, c1, c2, c3, c4, c5, c6], _ =>
    simp only [cellsU8, List.drop_zero, List.take_succ_cons, List.take_zero, List.drop_succ_cons] at h0 h1 h2 h3 h4 h5 h6
    rw [List.getElem?_eq_getElem (by rw [hx]; simp)] at h0 h1 h2 h3 h4 h5 h6
    obtain ⟨a0, e0, _, w0⟩ := DataW.trod_int Try.underlying5 h0
    obtain ⟨a1, e1, _, w1⟩ := DataW.trod_int Try.underlying5 h1
    obtain ⟨a2, e2, _, w2⟩ := DataW.trod_int Try.underlying5 h2
    obtain ⟨a3, e3, _, w3⟩ := DataW.trod_int Try.underlying5 h3
    obtain ⟨a4, e4, _, w4⟩ := DataW.trod_int Try.underlying5 h4
    obtain ⟨a5, e5, _, w5⟩ := DataW.trod_int Try.underlying5 h5
    obtain ⟨a6, e6, _, w6⟩ := DataW.trod_int Try.underlying5 h6
    simp at e0 e1 e2 e3 e4 e5 e6
    obtain ⟨k0, rfl, q0⟩ := u8_nat w0
    obtain ⟨k1, rfl, q1⟩ := u8_nat w1
    obtain ⟨k2, rfl, q2⟩ := u8_nat w2
    obtain ⟨k3, rfl, q3⟩ := u8_nat w3
    obtain ⟨k4, rfl, q4⟩ := u8_nat w4
    obtain ⟨k5, rfl, q5⟩ := u8_nat w5
    obtain ⟨k6, rfl, q6⟩ := u8_nat w6
    subst e0 e1 e2 e3 e4 e5 e6
    exact ⟨⟨k0, k1, k2, k3, k4, k5, k6⟩, rfl, q0, q1, q2, q3, q4, q5, q6⟩

theorem draft_in {n m : Nat} {vt va : Value} {x y : DataW H × List MemPlace} (hp : DataW.trod enc Try.prog w 0 (fun _ => true) true n 22 [vt] = some x) (ht : DataW.trod enc Try.prog w 0 (fun _ => true) true m 23 [va] = some y) :
    ∃ (ts : List Nat) (acs : List Ac) (aT aA : Option Addr) (cT cA : Nat), vt = .slice aT ts.length cT ∧ va = .slice aA acs.length cA ∧ DraftAt w vt va ts acs := by
  obtain ⟨ts, h1, g1⟩ := row_in tokL1_len (by omega) Try.underlying22 cellsU8 0 (fun n cs x => tok_dec n cs x) hp
  obtain ⟨acs, h2, g2⟩ := row_in acL_len (by omega) Try.underlying23 cellsAct Ac.zero (fun n cs x => act_dec n cs x) ht
  obtain ⟨aT, cT, e1⟩ := h1.len
  obtain ⟨aA, cA, e2⟩ := h2.len
  exact ⟨ts, acs, aT, aA, cT, cA, e1, e2, h1, h2, g1, g2⟩
end
end Go.Proofs.Ytfiielibnnodkaa
