/-
  What open of the engine comes to: a transition is entered at each place at which it looks.
  Conditions: none beyond each theorem's own.
-/
import Derived.Test.YtpbbdnicafifpaaEgI
import Derived.Test.YtpbbdnicafifpaaMarkI
namespace Go.Proofs.Ytpbbdnicafifpaa
open Go.RowKit
set_option linter.unusedVariables false

theorem map_set_cut {α β : Type} (f : α → β) {l : List α} {p : Nat} {x : α} (h : l[p]? = some x) : l.map f = (l.take p).map f ++ f x :: (l.drop (p + 1)).map f := by
  conv => lhs; rw [← List.take_append_drop p l, drop_at h]
  rw [List.map_append, List.map_cons]
theorem set_cut {α : Type} {l : List α} {p : Nat} (h : p < l.length) (y : α) : l.set p y = l.take p ++ y :: l.drop (p + 1) := List.set_eq_take_append_cons_drop.trans (by rw [if_pos h])

/-- the i-th transition put behind those that look at a place -/
def eyeL (L : List (List Int)) (p : Nat) (i : Int) : List (List Int) := L.set p (L.getD p [] ++ [i])
def eyesL (L : List (List Int)) (l : List (Int × Int)) (i : Int) : List (List Int) := l.foldl (fun L a => eyeL L a.1.toNat i) L
theorem eyesL_len (l : List (Int × Int)) (i : Int) : ∀ L : List (List Int), (eyesL L l i).length = L.length := by
  induction l with
  | nil => intro L; rfl
  | cons a l ih => intro L; unfold eyesL at *; rw [List.foldl_cons, ih]; simp [eyeL]
theorem eyesL_take {l : List (Int × Int)} {k : Nat} {a : Int × Int} (h : l[k]? = some a) (L : List (List Int)) (i : Int) : eyesL L (l.take (k + 1)) i = eyeL (eyesL L (l.take k) i) a.1.toNat i := by
  unfold eyesL; rw [take_at h, List.foldl_append]; rfl

section
variable {w0 w : World} {c : EC} {e : Eg}
theorem EgAt.eyeAdd (h : EgAt w0 w c e) {p : Nat} {v : Value} {es : List Int} (hp : c.es[p]? = some (v, es)) (hes : es.length ≤ 1000000) (ty : TypeId) (i : Int) :
    ∃ be ce a d a4 n4 d4 w4, c.ve = .slice (some ⟨be, 0, none⟩) c.es.length ce ∧ be < w.heap.size ∧ w.cell? ⟨be, p, none⟩ = some v ∧ v = .slice a es.length d ∧
      (Builtin.append_ #[39, 39] ty #[v, .slice (some ⟨w.heap.size, 0, none⟩) 1 1]).run Try.prog (w.alloc (.cells #[.int .i64 i] 3)) = .ok (.slice a4 n4 d4) w4 ∧
      (w4.cell? ⟨c.b, 3, none⟩ = some c.ve ∧ c.b < w4.heap.size ∧ w4.cell? ⟨be, p, none⟩ = some v ∧ w4.frozen? ⟨be, p, none⟩ = false ∧ be < w4.heap.size) ∧ (∀ r ∈ c.more, r.own w0.heap.size w4) ∧
      EgAt w0 (w4.setCell ⟨be, p, none⟩ (.slice a4 n4 d4)) { c with es := c.es.set p (.slice a4 n4 d4, es ++ [i]) } e := by
  have hcb := h.cells.2.2.2.2.2.2.2.2.2
  obtain ⟨vd, vr, vo, vl, h1, h2⟩ := h
  have hO : OwnI w0.heap.size w v es := h1.own (intRow v es) (by unfold EC.fix; simp; exact .inr (.inr (.inr (.inl ⟨v, es, List.mem_of_getElem? hp, rfl⟩))))
  obtain ⟨v4, w4, hr, ho4, hk4, hf4⟩ := run_push_i ty i hO hes h2.size
  obtain ⟨a4, d4, rfl⟩ := own_form ho4
  obtain ⟨a, d, rfl⟩ := own_form hO
  have hpl := lt_at hp
  have hS : (slsRow c.ve (c.es.map (·.1))).own w0.heap.size w := h1.own _ (by unfold EC.fix; simp)
  obtain ⟨be, ce, hve⟩ : ∃ be ce, c.ve = .slice (some ⟨be, 0, none⟩) c.es.length ce := by
    rcases hS.2 with ⟨_, h0⟩ | ⟨r, cap, cur, e, _⟩
    · have h0' : (c.es.map (·.1)).length = 0 := h0
      rw [List.length_map] at h0'; omega
    · exact ⟨r, cap, by simpa [slsRow] using e⟩
  -- the row itself
  have e1 := map_set_cut (fun x : Value × List Int => intRow x.1 x.2) hp
  have hA : AllOwn w0.heap.size w ((egRows c vd vr vo vl e ++ boolRow c.va c.aw :: slsRow c.ve (c.es.map (·.1)) :: (c.es.take p).map (fun x => intRow x.1 x.2)) ++ intRow (.slice a es.length d) es :: ((c.es.drop (p + 1)).map (fun x => intRow x.1 x.2) ++ (netRows c.vp c.vt c.n.places c.l ++ c.more))) := by
    have := h1
    unfold EC.fix at this
    rw [e1] at this
    simpa [List.append_assoc] using this
  have hB := hA.swap (r' := intRow (.slice a4 (es ++ [i]).length d4) (es ++ [i])) hk4 ho4 (by
    rcases hf4 with e | e
    · exact .inl e
    · exact .inr ⟨_, e, by omega⟩)
  have hk4' : Below w0.heap.size w w4 := hk4.below (fun k hk => (World.ownsRow.lt hO k hk).1) h2.size
  -- its place
  have hB2 : AllOwn w0.heap.size w4 ((egRows c vd vr vo vl e ++ [boolRow c.va c.aw]) ++ slsRow c.ve (c.es.map (·.1)) :: ((c.es.take p).map (fun x => intRow x.1 x.2) ++ (intRow (.slice a4 (es ++ [i]).length d4) (es ++ [i]) :: ((c.es.drop (p + 1)).map (fun x => intRow x.1 x.2) ++ (netRows c.vp c.vt c.n.places c.l ++ c.more))))) := by
    simpa [List.append_assoc] using hB
  have hx : (c.es.map (·.1))[p]? = some (.slice a es.length d) := by rw [List.getElem?_map, hp]; rfl
  have e2 := flat_set (f := slL) (k := 1) (fun _ => rfl) (c.es.map (·.1)) p 0 (.slice a es.length d) (.slice a4 (es ++ [i]).length d4) (.slice a4 (es ++ [i]).length d4) hx (by omega) rfl
  rw [Nat.mul_one, Nat.add_zero] at e2
  have hC := AllOwn.storeAt (r' := slsRow c.ve ((c.es.map (·.1)).set p (.slice a4 (es ++ [i]).length d4))) hB2 (b := be) (c := ce) (by simp [slsRow, hve]) p (.slice a4 (es ++ [i]).length d4) rfl rfl rfl (by simp [slsRow]) e2.symm
  have hS4 : (slsRow c.ve (c.es.map (·.1))).own w0.heap.size w4 := hB2.own _ (by simp)
  have hcell : ∀ W : World, (slsRow c.ve (c.es.map (·.1))).own w0.heap.size W → W.cell? ⟨be, p, none⟩ = some (.slice a es.length d) ∧ W.frozen? ⟨be, p, none⟩ = false ∧ be < W.heap.size ∧ w0.heap.size ≤ be := fun W hW => by
    have hR : RowAt 1 W c.ve (c.es.map (·.1)).length ((c.es.map (·.1)).flatMap slL) := RowAt.of_own hW
    rw [hve] at hR
    obtain ⟨g, off, e3, hg, hc⟩ := RowAt.elem (f := slL) (k := 1) (fun _ => rfl) hR hx
    injection e3 with e3
    injection e3 with e3 e4 _
    subst e3 e4
    have hW' : World.ownsRow W w0.heap.size 39 1 (.slice (some ⟨be, 0, none⟩) (c.es.map (·.1)).length ce) (c.es.map (·.1)).length ((c.es.map (·.1)).flatMap slL) := by
      have := hW
      unfold slsRow Row.own at this
      rw [hve] at this
      simpa using this
    exact ⟨by have := hc 0 _ rfl; simpa using this, World.ownsRow.frozenAt hW' p, hg, (World.ownsRow.lt hW' be rfl).1⟩
  obtain ⟨q1, _, q3, q4⟩ := hcell w hS
  obtain ⟨p1, p2, p3, _⟩ := hcell w4 hS4
  have hbx := hB2.own (boxRow c.b 105 (egCs c vd vr vo vl e.t)) (by simp [egRows])
  refine ⟨be, ce, a, d, a4, (es ++ [i]).length, d4, w4, hve, q3, q1, rfl, hr, ⟨boxRow.cell hbx rfl, (boxRow.lt hbx).2, p1, p2, p3⟩, fun r hr => hB2.own r (by simp [hr]), vd, vr, vo, vl, ?_, (h2.trans hk4').trans (hC.2.below (fun k e => by omega) (h2.trans hk4').size)⟩
  have e5 : egRows { c with es := c.es.set p (.slice a4 (es ++ [i]).length d4, es ++ [i]) } vd vr vo vl e = egRows c vd vr vo vl e := rfl
  have e6 : EC.fix { c with es := c.es.set p (.slice a4 (es ++ [i]).length d4, es ++ [i]) } = boolRow c.va c.aw :: slsRow c.ve ((c.es.map (·.1)).set p (.slice a4 (es ++ [i]).length d4)) :: ((c.es.take p).map (fun x => intRow x.1 x.2) ++ (intRow (.slice a4 (es ++ [i]).length d4) (es ++ [i]) :: ((c.es.drop (p + 1)).map (fun x => intRow x.1 x.2) ++ (netRows c.vp c.vt c.n.places c.l ++ c.more)))) := by
    have m1 : (c.es.set p (Value.slice a4 (es ++ [i]).length d4, es ++ [i])).map (·.1) = (c.es.map (·.1)).set p (Value.slice a4 (es ++ [i]).length d4) := by rw [List.map_set]
    have m2 : (c.es.set p (Value.slice a4 (es ++ [i]).length d4, es ++ [i])).map (fun x : Value × List Int => intRow x.1 x.2) = (c.es.take p).map (fun x => intRow x.1 x.2) ++ intRow (.slice a4 (es ++ [i]).length d4) (es ++ [i]) :: (c.es.drop (p + 1)).map (fun x => intRow x.1 x.2) := by rw [set_cut hpl, List.map_append, List.map_cons]
    unfold EC.fix
    simp only
    rw [m1, m2]
    simp [List.append_assoc]
  rw [e5, e6]
  have := hC.1
  simpa [List.append_assoc] using this
end

/-- the engine's own with other eyes -/
def EC.eyes (c : EC) (es : List (Value × List Int)) : EC := { c with es := es }
theorem EC.eyes_plus (c : EC) (es : List (Value × List Int)) (r : Row) : (c.eyes es).plus r = (c.plus r).eyes es := rfl

theorem EgAt.arcs3 {w0 w : World} {c : EC} {e : Eg} (h : EgAt w0 w c e) (hl : c.l.map (·.1) = c.n.trans) {i : Nat} {x : Tr} (hx : c.n.trans[i]? = some x) :
    ∃ g off cap a1 c1 a2 c2 a3 c3, c.vt = .slice (some ⟨g, off, none⟩) c.n.trans.length cap ∧ g < w.heap.size ∧ w.cell? ⟨g, off + i * 6, none⟩ = some (.string x.name) ∧ w.cell? ⟨g, off + i * 6 + 1, none⟩ = some (.int .i64 x.delay) ∧ w.cell? ⟨g, off + i * 6 + 2, none⟩ = some (.int .i64 x.prio) ∧
      w.cell? ⟨g, off + i * 6 + 3, none⟩ = some (.slice a1 x.inn.length c1) ∧ w.cell? ⟨g, off + i * 6 + 4, none⟩ = some (.slice a2 x.nt.length c2) ∧ w.cell? ⟨g, off + i * 6 + 5, none⟩ = some (.slice a3 x.out.length c3) ∧
      (∀ (w' : World) (es : List (Value × List Int)) (r : Row) (e' : Eg), EgAt w0 w' ((c.eyes es).plus r) e' → ArcsAt w' (.slice a1 x.inn.length c1) x.inn ∧ ArcsAt w' (.slice a2 x.nt.length c2) x.nt) := by
  have hmem : ∀ r ∈ netRows c.vp c.vt c.n.places c.l, r ∈ c.fix := fun r hr => by
    unfold EC.fix
    exact List.mem_cons_of_mem _ (List.mem_cons_of_mem _ (List.mem_append_right _ (List.mem_append_left _ hr)))
  have hmem2 : ∀ (es : List (Value × List Int)) (q : Row), ∀ r ∈ netRows c.vp c.vt c.n.places c.l, r ∈ ((c.eyes es).plus q).fix := fun es q r hr => by
    unfold EC.fix
    exact List.mem_cons_of_mem _ (List.mem_cons_of_mem _ (List.mem_append_right _ (List.mem_append_left _ hr)))
  have hi : (c.l.map (·.1))[i]? = some x := by rw [hl]; exact hx
  rw [List.getElem?_map] at hi
  obtain ⟨y, hy, rfl⟩ := Option.map_eq_some_iff.1 hi
  have hrow : ∀ r ∈ arcRows y, r ∈ netRows c.vp c.vt c.n.places c.l := fun r hr => by
    unfold netRows
    rw [List.mem_cons, List.mem_cons]
    exact .inr (.inr (List.mem_flatMap.2 ⟨y, List.mem_of_getElem? hy, hr⟩))
  have hT : RowAt 6 w c.vt c.l.length (c.l.flatMap trL) := RowAt.of_own (h.fixed (hmem (trRow c.vt c.l) (by simp [netRows])))
  obtain ⟨at_, ct, et⟩ := RowAt.len hT
  rw [et] at hT
  obtain ⟨b, off, e1, hb, hc⟩ := RowAt.elem trL_len hT hy
  obtain ⟨t, v1, v2, v3⟩ := y
  have g1 : ArcsAt w v1 t.inn := RowAt.of_own (h.fixed (hmem _ (hrow (arcRow v1 t.inn) (by simp [arcRows]))))
  have g2 : ArcsAt w v2 t.nt := RowAt.of_own (h.fixed (hmem _ (hrow (arcRow v2 t.nt) (by simp [arcRows]))))
  have g3 : ArcsAt w v3 t.out := RowAt.of_own (h.fixed (hmem _ (hrow (arcRow v3 t.out) (by simp [arcRows]))))
  obtain ⟨a1, c1, f1⟩ := RowAt.len g1
  obtain ⟨a2, c2, f2⟩ := RowAt.len g2
  obtain ⟨a3, c3, f3⟩ := RowAt.len g3
  subst f1 f2 f3
  have hlen : c.n.trans.length = c.l.length := by rw [← hl, List.length_map]
  exact ⟨b, off, ct, a1, c1, a2, c2, a3, c3, by rw [et, e1, hlen], hb, hc 0 _ rfl, hc 1 _ rfl, hc 2 _ rfl, hc 3 _ rfl, hc 4 _ rfl, hc 5 _ rfl, fun w' es r e' h' =>
    ⟨RowAt.of_own (h'.fixed (hmem2 es r _ (hrow (arcRow (.slice a1 t.inn.length c1) t.inn) (by simp [arcRows])))), RowAt.of_own (h'.fixed (hmem2 es r _ (hrow (arcRow (.slice a2 t.nt.length c2) t.nt) (by simp [arcRows]))))⟩⟩

theorem eyeL_get {L : List (List Int)} {es : List (Value × List Int)} {p : Nat} {v v' : Value} {el : List Int} {i : Int} (hL : es.map (·.2) = L) (hp : es[p]? = some (v, el)) : (es.set p (v', el ++ [i])).map (·.2) = eyeL L p i := by
  subst hL
  unfold eyeL
  rw [List.map_set]
  have : (es.map (·.2)).getD p [] = el := by simp [List.getD, List.getElem?_map, hp]
  rw [this]
theorem set_small {es : List (Value × List Int)} {p : Nat} {v v' : Value} {el : List Int} {i : Int} {m : Nat} (hs : ∀ x ∈ es, x.2.length ≤ m) (hp : es[p]? = some (v, el)) : ∀ x ∈ es.set p (v', el ++ [i]), x.2.length ≤ m + 1 := by
  intro x hx
  rcases List.mem_or_eq_of_mem_set hx with h | h
  · have := hs x h; omega
  · subst h
    have := hs _ (List.mem_of_getElem? hp)
    simp only at this
    simp; omega

set_option maxRecDepth 100000 in
set_option maxHeartbeats 8000000 in
theorem eopen_any {w0 w : World} {c : EC} {e : Eg} (hl : c.l.map (·.1) = c.n.trans) (hn : NOk c.n) (hlen : c.es.length = c.n.places.length) (hsm : ∀ x ∈ c.es, x.2.length ≤ 100000) (h : EgAt w0 w c e) {i : Nat} {x : Tr} (hx : c.n.trans[i]? = some x) :
    Calls Try.prog 59 #[.pointer (some ⟨c.b, 0, none⟩), .int .i64 (i : Int)] w fun r w' => r = .returned (.tuple #[]) ∧ ∃ es' : List (Value × List Int), es'.length = c.es.length ∧ es'.map (·.2) = eyesL (eyesL (c.es.map (·.2)) x.inn i) x.nt i ∧ EgAt w0 w' (c.eyes es') e := by
  obtain ⟨g, off, ct, a1, c1, a2, c2, a3, c3, evt, hgw, z0, z1, z2, z3, z4, z5, hAr⟩ := h.arcs3 hl hx
  have k1 := h.cells.2.1
  have kb := h.cells.2.2.2.2.2.2.2.2.1
  have hil := lt_at hx
  obtain ⟨nt, hnt⟩ : ∃ q, q = c.n.trans.length := ⟨_, rfl⟩
  rw [evt, ← hnt] at k1
  have hlt : i < nt := by omega
  have hlti : (i : Int) < (nt : Int) := by omega
  have h18 := hn.len x (hn.at_ hx)
  obtain ⟨n1, hn1⟩ : ∃ q, q = x.inn.length := ⟨_, rfl⟩
  obtain ⟨n2, hn2⟩ : ∃ q, q = x.nt.length := ⟨_, rfl⟩
  obtain ⟨n3, hn3⟩ : ∃ q, q = x.out.length := ⟨_, rfl⟩
  obtain ⟨sx, hsx⟩ : ∃ q, q = x.name := ⟨_, rfl⟩
  obtain ⟨dl, hdl⟩ : ∃ q, q = x.delay := ⟨_, rfl⟩
  obtain ⟨pr, hpr⟩ : ∃ q, q = x.prio := ⟨_, rfl⟩
  rw [← hn1] at z3 hAr
  rw [← hn2] at z4 hAr
  rw [← hn3] at z5
  rw [← hsx] at z0
  rw [← hdl] at z1
  rw [← hpr] at z2
  have hn18 : n1 ≤ 8 := by omega
  have hn28 : n2 ≤ 8 := by omega
  have h1 := h.plusBox #[.string sx, .int .i64 dl, .int .i64 pr, .slice a1 n1 c1, .slice a2 n2 c2, .slice a3 n3 c3] 79
  obtain ⟨tb, htb⟩ : ∃ q, q = w.heap.size := ⟨_, rfl⟩
  rw [← htb] at h1
  have H1 := Lib.hid (show EgAt w0 _ ((c.eyes c.es).plus (boxRow tb 79 [.string sx, .int .i64 dl, .int .i64 pr, .slice a1 n1 c1, .slice a2 n2 c2, .slice a3 n3 c3])) e from h1)
  have HAr := Lib.hid hAr
  have HN := Lib.hid hn
  have Hlen := Lib.hid hlen
  have Hsm := Lib.hid hsm
  have Hx := Lib.hid hx
  have Hn1 := Lib.hid hn1
  have Hn2 := Lib.hid hn2
  have Htb := Lib.hid htb
  obtain ⟨B, hB⟩ : ∃ B, B = c.b := ⟨_, rfl⟩
  rw [← hB] at k1 kb ⊢
  have HB := Lib.hid hB
  clear hl hn hlen hsm h hx hAr evt hnt hn1 hn2 hn3 hsx hdl hpr h1 hil h18 htb hB
  go_enter Try.func59, Try.ntmps59
  go_wp2
  rw [← Htb.out]
  clear k1 kb z0 z1 z2 z3 z4 z5 hgw hlt hlti
  go_loopw [20] (fun s wr => ∃ k : Nat, k ≤ n1 ∧ s = .int .i64 k ∧ ∃ es' : List (Value × List Int), es'.length = c.es.length ∧ es'.map (·.2) = eyesL (c.es.map (·.2)) (x.inn.take k) i ∧ (∀ x ∈ es', x.2.length ≤ 100000 + k) ∧ EgAt w0 wr ((c.eyes es').plus (boxRow tb 79 [.string sx, .int .i64 dl, .int .i64 pr, .slice a1 n1 c1, .slice a2 n2 c2, .slice a3 n3 c3])) e) (fun s _ => n1 - (intOf s).toNat)
  case atStart => exact ⟨0, by omega, rfl, c.es, rfl, rfl, fun y hy => by have := Hsm.out y hy; omega, H1.out⟩
  case round =>
    rename World => v1
    obtain ⟨k, hk, rfl, es', hel, hem, hes, hE⟩ := hrel
    by_cases hlt : k < n1
    · have hlti : (k : Int) < (n1 : Int) := by omega
      obtain ⟨⟨xp, xn⟩, hxk⟩ := at_lt (l := x.inn) (k := k) (by rw [← Hn1.out]; exact hlt)
      obtain ⟨bA, oA, eA, hbA, y0, y1⟩ := ArcsAt.at_ (HAr.out _ _ _ _ hE).1 hxk
      subst eA
      have hpos := (HN.out.inn x (List.mem_of_getElem? Hx.out) _ (List.mem_of_getElem? hxk)).1
      simp only at hpos
      obtain ⟨p, rfl⟩ : ∃ p : Nat, xp = p := ⟨xp.toNat, by omega⟩
      obtain ⟨⟨v, el⟩, hp⟩ := at_lt (l := es') (k := p) (by rw [hel, Hlen.out]; omega)
      have hsml := hes _ (List.mem_of_getElem? hp)
      simp only at hsml
      have h2 := hE.plusBox #[.int .i64 (p : Int), .int .i64 xn] 76
      obtain ⟨V, hV⟩ : ∃ V, V = v1.alloc (.cells #[.int .i64 (p : Int), .int .i64 xn] 76) := ⟨_, rfl⟩
      obtain ⟨ab, hab⟩ : ∃ ab, ab = v1.heap.size := ⟨_, rfl⟩
      rw [← hV, ← hab] at h2
      have h3 := h2.go (Below.refl _ _).drew
      obtain ⟨be, ce, av, dv, a4, n4, d4, w4, ve1, ve2, q1, ev, hr, ⟨m3, mb, mp, mf, ml⟩, hmore, hfin⟩ := h3.eyeAdd (p := p) (v := v) (es := el) hp (by omega) 39 (i : Int)
      subst ev
      have k3 := h2.cells.2.2.2.1
      have kb := h2.cells.2.2.2.2.2.2.2.2.1
      have hB := h2.beside
      have x0 := boxRow.cell hB (j := 0) rfl
      have xl := (boxRow.lt hB).2
      have hB4 := hmore (boxRow ab 76 [.int .i64 (p : Int), .int .i64 xn]) (by simp [EC.plus])
      have y4 := boxRow.cell hB4 (j := 0) rfl
      have yl := (boxRow.lt hB4).2
      simp only [EC.plus, EC.eyes] at k3 kb m3 mb ve1
      rw [← HB.out] at k3 kb m3 mb
      rw [ve1] at k3 m3
      have ve1x := ve1
      obtain ⟨ne, hne⟩ : ∃ ne, ne = es'.length := ⟨_, rfl⟩
      rw [← hne] at k3 m3
      have hpe : p < ne := by rw [hne, hel, Hlen.out]; omega
      have hpi : (p : Int) < (ne : Int) := by omega
      obtain ⟨le, hle⟩ : ∃ le, le = el.length := ⟨_, rfl⟩
      rw [← hle] at q1 mp hr
      have q1' : V.cell? ⟨be, p, none⟩ = some (.slice av le dv) := q1
      have ve2' : be < V.heap.size := ve2
      have Hfin := Lib.hid (show EgAt w0 (w4.setCell ⟨be, p, none⟩ (.slice a4 n4 d4)) ((c.eyes (es'.set p (.slice a4 n4 d4, el ++ [(i : Int)]))).plus _) e from EgAt.minus (r := boxRow ab 76 [.int .i64 (p : Int), .int .i64 xn]) hfin)
      have Hfl := Lib.hid (And.intro (show (es'.set p (Value.slice a4 n4 d4, el ++ [(i : Int)])).length = c.es.length by rw [List.length_set]; exact hel) (And.intro (show (es'.set p (Value.slice a4 n4 d4, el ++ [(i : Int)])).map (·.2) = eyesL (c.es.map (·.2)) (x.inn.take (k + 1)) i by rw [eyesL_take hxk, eyeL_get hem hp]; rfl) (set_small (v' := .slice a4 n4 d4) (i := (i : Int)) hes hp)))
      have k3f := hfin.cells.2.2.2.1
      have x0f := boxRow.cell (hfin.fixed (r := boxRow ab 76 [.int .i64 (p : Int), .int .i64 xn]) (by unfold EC.fix EC.plus; simp)) (j := 0) rfl
      simp only [EC.plus, EC.eyes] at k3f
      rw [← HB.out, ve1x, ← hne] at k3f
      have kkA := And.intro m3 y4
      have kkB := And.intro k3f x0f
      have HV := Lib.hid hV
      have Hab := Lib.hid hab
      clear hel hem hes hE hxk hpos hp hsml h2 h3 hV hab hB hB4 hmore hfin hne hle q1 ve1 ve2 ve1x k3f x0f
      go_upto_region 4 with (fail)
      rw [← HV.out, ← Hab.out]
      clear HV Hab y0 y1 hbA
      refine wp_region_held_drew (S := (fun w' : World => w'.cell? ⟨B, 3, none⟩ = some (.slice (some ⟨be, 0, none⟩) ne ce) ∧ w'.cell? ⟨ab, 0, none⟩ = some (.int .i64 (p : Int)))) (by kernel_rfl) ⟨k3, x0⟩ (fun hHeld => ?_)
      refine wpAnyH_take (i := 0) (oi := { dst := some 24, op := Op.move (Operand.tmp 0), type := 63, pos := "swift.go:54", after := #[], guard := none }) (v := ?_) rfl (by kernel_rfl) (by kernel_rfl) (by kernel_rfl) (fun _ _ _ h => h) (Or.inl ⟨by rfl, ?hy1⟩) (by assumption) ?rest1
      case hy1 =>
        intro w hSw
        try dsimp only at hSw
        go_simp
        all_goals with_reducible rfl
      try simp only [Act.put, List.setIfInBounds_toArray, List.set_cons_zero, List.set_cons_succ]
      refine wpAnyH_take (i := 1) (oi := { dst := some 25, op := Op.nilCheck (Operand.tmp 24), type := 0, pos := "swift.go:54", after := #[{ on := 0, ground := Ground.data }], guard := none }) (v := ?_) rfl (by kernel_rfl) (by kernel_rfl) (by kernel_rfl) (fun _ _ _ h => h) (Or.inl ⟨by rfl, ?hy2⟩) (by assumption) ?rest2
      case hy2 =>
        intro w hSw
        try dsimp only at hSw
        go_simp
        all_goals with_reducible rfl
      try simp only [Act.put, List.setIfInBounds_toArray, List.set_cons_zero, List.set_cons_succ]
      refine wpAnyH_take (i := 2) (oi := { dst := some 26, op := Op.fieldAddr 105 (Operand.tmp 25) 2, type := 0, pos := "swift.go:54", after := #[{ on := 1, ground := Ground.data }], guard := none }) (v := ?_) rfl (by kernel_rfl) (by kernel_rfl) (by kernel_rfl) (fun _ _ _ h => h) (Or.inl ⟨by rfl, ?hy3⟩) (by assumption) ?rest3
      case hy3 =>
        intro w hSw
        try dsimp only at hSw
        go_simp
        all_goals with_reducible rfl
      try simp only [Act.put, List.setIfInBounds_toArray, List.set_cons_zero, List.set_cons_succ]
      refine wpAnyH_take (i := 3) (oi := { dst := some 27, op := Op.load 33 (Operand.tmp 26), type := 33, pos := "swift.go:54", after := #[{ on := 2, ground := Ground.data }], guard := none }) (v := ?_) rfl (by kernel_rfl) (by kernel_rfl) (by kernel_rfl) (fun _ _ _ h => h) (Or.inl ⟨by rfl, ?hy4⟩) (by assumption) ?rest4
      case hy4 =>
        intro w hSw
        try dsimp only at hSw
        go_simp
        all_goals with_reducible rfl
      try simp only [Act.put, List.setIfInBounds_toArray, List.set_cons_zero, List.set_cons_succ]
      refine wpAnyH_take (i := 4) (oi := { dst := some 28, op := Op.fieldAddr 76 (Operand.tmp 6) 0, type := 0, pos := "swift.go:54", after := #[], guard := none }) (v := ?_) rfl (by kernel_rfl) (by kernel_rfl) (by kernel_rfl) (fun _ _ _ h => h) (Or.inl ⟨by rfl, ?hy5⟩) (by assumption) ?rest5
      case hy5 =>
        intro w hSw
        try dsimp only at hSw
        go_simp
        all_goals with_reducible rfl
      try simp only [Act.put, List.setIfInBounds_toArray, List.set_cons_zero, List.set_cons_succ]
      refine wpAnyH_take (i := 5) (oi := { dst := some 29, op := Op.load 3 (Operand.tmp 28), type := 3, pos := "swift.go:54", after := #[{ on := 4, ground := Ground.data }], guard := none }) (v := ?_) rfl (by kernel_rfl) (by kernel_rfl) (by kernel_rfl) (fun _ _ _ h => h) (Or.inl ⟨by rfl, ?hy6⟩) (by assumption) ?rest6
      case hy6 =>
        intro w hSw
        try dsimp only at hSw
        go_simp
        all_goals with_reducible rfl
      try simp only [Act.put, List.setIfInBounds_toArray, List.set_cons_zero, List.set_cons_succ]
      refine wpAnyH_take (i := 6) (oi := { dst := some 30, op := Op.move (Operand.tmp 0), type := 63, pos := "swift.go:54", after := #[], guard := none }) (v := ?_) rfl (by kernel_rfl) (by kernel_rfl) (by kernel_rfl) (fun _ _ _ h => h) (Or.inl ⟨by rfl, ?hy7⟩) (by assumption) ?rest7
      case hy7 =>
        intro w hSw
        try dsimp only at hSw
        go_simp
        all_goals with_reducible rfl
      try simp only [Act.put, List.setIfInBounds_toArray, List.set_cons_zero, List.set_cons_succ]
      refine wpAnyH_take (i := 7) (oi := { dst := some 31, op := Op.nilCheck (Operand.tmp 30), type := 0, pos := "swift.go:54", after := #[{ on := 6, ground := Ground.data }], guard := none }) (v := ?_) rfl (by kernel_rfl) (by kernel_rfl) (by kernel_rfl) (fun _ _ _ h => h) (Or.inl ⟨by rfl, ?hy8⟩) (by assumption) ?rest8
      case hy8 =>
        intro w hSw
        try dsimp only at hSw
        go_simp
        all_goals with_reducible rfl
      try simp only [Act.put, List.setIfInBounds_toArray, List.set_cons_zero, List.set_cons_succ]
      refine wpAnyH_take (i := 8) (oi := { dst := some 32, op := Op.fieldAddr 105 (Operand.tmp 31) 2, type := 0, pos := "swift.go:54", after := #[{ on := 7, ground := Ground.data }], guard := none }) (v := ?_) rfl (by kernel_rfl) (by kernel_rfl) (by kernel_rfl) (fun _ _ _ h => h) (Or.inl ⟨by rfl, ?hy9⟩) (by assumption) ?rest9
      case hy9 =>
        intro w hSw
        try dsimp only at hSw
        go_simp
        all_goals with_reducible rfl
      try simp only [Act.put, List.setIfInBounds_toArray, List.set_cons_zero, List.set_cons_succ]
      refine wpAnyH_take (i := 9) (oi := { dst := some 33, op := Op.load 33 (Operand.tmp 32), type := 33, pos := "swift.go:54", after := #[{ on := 8, ground := Ground.data }], guard := none }) (v := ?_) rfl (by kernel_rfl) (by kernel_rfl) (by kernel_rfl) (fun _ _ _ h => h) (Or.inl ⟨by rfl, ?hy10⟩) (by assumption) ?rest10
      case hy10 =>
        intro w hSw
        try dsimp only at hSw
        go_simp
        all_goals with_reducible rfl
      try simp only [Act.put, List.setIfInBounds_toArray, List.set_cons_zero, List.set_cons_succ]
      refine wpAnyH_take (i := 10) (oi := { dst := some 34, op := Op.fieldAddr 76 (Operand.tmp 6) 0, type := 0, pos := "swift.go:54", after := #[], guard := none }) (v := ?_) rfl (by kernel_rfl) (by kernel_rfl) (by kernel_rfl) (fun _ _ _ h => h) (Or.inl ⟨by rfl, ?hy11⟩) (by assumption) ?rest11
      case hy11 =>
        intro w hSw
        try dsimp only at hSw
        go_simp
        all_goals with_reducible rfl
      try simp only [Act.put, List.setIfInBounds_toArray, List.set_cons_zero, List.set_cons_succ]
      refine wpAnyH_take (i := 11) (oi := { dst := some 35, op := Op.load 3 (Operand.tmp 34), type := 3, pos := "swift.go:54", after := #[{ on := 10, ground := Ground.data }], guard := none }) (v := ?_) rfl (by kernel_rfl) (by kernel_rfl) (by kernel_rfl) (fun _ _ _ h => h) (Or.inl ⟨by rfl, ?hy12⟩) (by assumption) ?rest12
      case hy12 =>
        intro w hSw
        try dsimp only at hSw
        go_simp
        all_goals with_reducible rfl
      try simp only [Act.put, List.setIfInBounds_toArray, List.set_cons_zero, List.set_cons_succ]
      refine wpAnyH_take (i := 12) (oi := { dst := some 36, op := Op.indexAddr 33 (Operand.tmp 33) (Operand.tmp 35), type := 0, pos := "swift.go:54", after := #[{ on := 9, ground := Ground.data }, { on := 11, ground := Ground.data }], guard := none }) (v := ?_) rfl (by kernel_rfl) (by kernel_rfl) (by kernel_rfl) (fun _ _ _ h => h) (Or.inl ⟨by rfl, ?hy13⟩) (by assumption) ?rest13
      case hy13 =>
        intro w hSw
        try dsimp only at hSw
        go_simp
        all_goals with_reducible rfl
      try simp only [Act.put, List.setIfInBounds_toArray, List.set_cons_zero, List.set_cons_succ]
      refine wpAnyH_take (i := 14) (oi := { dst := some 38, op := Op.move (Operand.tmp 1), type := 3, pos := "swift.go:54", after := #[], guard := none }) (v := ?_) rfl (by kernel_rfl) (by kernel_rfl) (by kernel_rfl) (fun _ _ _ h => h) (Or.inl ⟨by rfl, ?hy14⟩) (by assumption) ?rest14
      case hy14 =>
        intro w hSw
        try dsimp only at hSw
        go_simp
        all_goals with_reducible rfl
      try simp only [Act.put, List.setIfInBounds_toArray, List.set_cons_zero, List.set_cons_succ]
      refine wpAnyH_ready (rs := [13, 15]) (by kernel_rfl) (by simp) ?_
      refine AllReadyH.cons (o := { dst := some 37, op := Op.load 39 (Operand.tmp 36), type := 39, pos := "swift.go:54", after := #[{ on := 12, ground := Ground.data }], guard := none }) rfl (fun K hK => ?step15) ?more15
      case step15 =>
        go_simp
        refine hK.out _ _ ?hs15 (fun hHeld => ?go15)
        case hs15 => assumption
        clear hK K
        try simp only [Act.put, List.setIfInBounds_toArray, List.set_cons_zero, List.set_cons_succ]
        refine wpAnyH_ready (rs := [15]) (by kernel_rfl) (by simp) ?_
        refine AllReadyH.cons (o := { dst := some 39, op := Op.buildSlice 39 1 #[(0, Operand.tmp 38)], type := 39, pos := "swift.go:54", after := #[{ on := 14, ground := Ground.data }], guard := none }) rfl (fun K hK => ?step16) ?more16
        case step16 =>
          go_simp
          refine hK.out _ _ ?hs16 (fun hHeld => ?go16)
          case hs16 => go_simp
          clear hK K
          try simp only [Act.put, List.setIfInBounds_toArray, List.set_cons_zero, List.set_cons_succ]
          refine wpAnyH_ready (rs := [16]) (by kernel_rfl) (by simp) ?_
          refine AllReadyH.cons (o := { dst := some 40, op := Op.call { callee := Callee.builtin Builtin.append, args := #[Operand.tmp 37, Operand.tmp 39], argTypes := #[39, 39] }, type := 39, pos := "swift.go:54", after := #[{ on := 13, ground := Ground.data }, { on := 15, ground := Ground.data }], guard := none }) rfl (fun K hK => ?step17) ?more17
          case step17 =>
            refine step_append_eq (by rfl) (.tmp 37) (.tmp 39) 39 (by rfl) (by rfl) (by rfl) hr ?_
            refine hK.out _ _ ?hs17 (fun hHeld => ?go17)
            case hs17 => exact kkA
            clear hK K
            try simp only [Act.put, List.setIfInBounds_toArray, List.set_cons_zero, List.set_cons_succ]
            refine wpAnyH_take (i := 17) (oi := { dst := some 41, op := Op.indexAddr 33 (Operand.tmp 27) (Operand.tmp 29), type := 0, pos := "swift.go:54", after := #[{ on := 3, ground := Ground.data }, { on := 5, ground := Ground.data }, { on := 0, ground := Ground.phase }, { on := 1, ground := Ground.phase }, { on := 2, ground := Ground.phase }, { on := 3, ground := Ground.phase }, { on := 4, ground := Ground.phase }, { on := 5, ground := Ground.phase }, { on := 6, ground := Ground.phase }, { on := 7, ground := Ground.phase }, { on := 8, ground := Ground.phase }, { on := 9, ground := Ground.phase }, { on := 10, ground := Ground.phase }, { on := 11, ground := Ground.phase }, { on := 12, ground := Ground.phase }, { on := 13, ground := Ground.phase }, { on := 14, ground := Ground.phase }, { on := 15, ground := Ground.phase }, { on := 16, ground := Ground.phase }], guard := none }) (v := ?_) rfl (by kernel_rfl) (by kernel_rfl) (by kernel_rfl) (fun _ _ _ h => h) (Or.inl ⟨by rfl, ?hy18⟩) (by assumption) ?rest18
            case hy18 =>
              intro w hSw
              try dsimp only at hSw
              go_simp
              all_goals with_reducible rfl
            try simp only [Act.put, List.setIfInBounds_toArray, List.set_cons_zero, List.set_cons_succ]
            refine wpAnyH_ready (rs := [18]) (by kernel_rfl) (by simp) ?_
            refine AllReadyH.cons (o := { dst := none, op := Op.store 39 (Operand.tmp 41) (Operand.tmp 40), type := 0, pos := "swift.go:54", after := #[{ on := 17, ground := Ground.data }, { on := 16, ground := Ground.data }, { on := 16, ground := Ground.chain }, { on := 0, ground := Ground.phase }, { on := 1, ground := Ground.phase }, { on := 2, ground := Ground.phase }, { on := 3, ground := Ground.phase }, { on := 4, ground := Ground.phase }, { on := 5, ground := Ground.phase }, { on := 6, ground := Ground.phase }, { on := 7, ground := Ground.phase }, { on := 8, ground := Ground.phase }, { on := 9, ground := Ground.phase }, { on := 10, ground := Ground.phase }, { on := 11, ground := Ground.phase }, { on := 12, ground := Ground.phase }, { on := 13, ground := Ground.phase }, { on := 14, ground := Ground.phase }, { on := 15, ground := Ground.phase }, { on := 16, ground := Ground.phase }], guard := none }) rfl (fun K hK => ?step19) ?more19
            case step19 =>
              go_simp
              refine hK.out _ _ ?hs19 (fun hHeld => ?go19)
              case hs19 => exact kkB
              clear hK K
              try simp only [Act.put, List.setIfInBounds_toArray, List.set_cons_zero, List.set_cons_succ]
              refine wpAnyH_done (by kernel_rfl) ?_ _
              clear hHeld
              go_wp2
              go_roundw
              case rel => exact ⟨k + 1, by omega, by go_num, _, Hfl.out.1, Hfl.out.2.1, Hfl.out.2.2, Hfin.out⟩
              case measure => simp [intOf]; omega
            case more19 => exact AllReadyH.nil
          case more17 => exact AllReadyH.nil
        case more16 => exact AllReadyH.nil
      case more15 =>
        refine AllReadyH.cons (o := { dst := some 39, op := Op.buildSlice 39 1 #[(0, Operand.tmp 38)], type := 39, pos := "swift.go:54", after := #[{ on := 14, ground := Ground.data }], guard := none }) rfl (fun K hK => ?step20) ?more20
        case step20 =>
          go_simp
          refine hK.out _ _ ?hs20 (fun hHeld => ?go20)
          case hs20 => go_simp
          clear hK K
          try simp only [Act.put, List.setIfInBounds_toArray, List.set_cons_zero, List.set_cons_succ]
          refine wpAnyH_ready (rs := [13]) (by kernel_rfl) (by simp) ?_
          refine AllReadyH.cons (o := { dst := some 37, op := Op.load 39 (Operand.tmp 36), type := 39, pos := "swift.go:54", after := #[{ on := 12, ground := Ground.data }], guard := none }) rfl (fun K hK => ?step21) ?more21
          case step21 =>
            go_simp
            refine hK.out _ _ ?hs21 (fun hHeld => ?go21)
            case hs21 => assumption
            clear hK K
            try simp only [Act.put, List.setIfInBounds_toArray, List.set_cons_zero, List.set_cons_succ]
            refine wpAnyH_ready (rs := [16]) (by kernel_rfl) (by simp) ?_
            refine AllReadyH.cons (o := { dst := some 40, op := Op.call { callee := Callee.builtin Builtin.append, args := #[Operand.tmp 37, Operand.tmp 39], argTypes := #[39, 39] }, type := 39, pos := "swift.go:54", after := #[{ on := 13, ground := Ground.data }, { on := 15, ground := Ground.data }], guard := none }) rfl (fun K hK => ?step22) ?more22
            case step22 =>
              refine step_append_eq (by rfl) (.tmp 37) (.tmp 39) 39 (by rfl) (by rfl) (by rfl) hr ?_
              refine hK.out _ _ ?hs22 (fun hHeld => ?go22)
              case hs22 => exact kkA
              clear hK K
              try simp only [Act.put, List.setIfInBounds_toArray, List.set_cons_zero, List.set_cons_succ]
              refine wpAnyH_take (i := 17) (oi := { dst := some 41, op := Op.indexAddr 33 (Operand.tmp 27) (Operand.tmp 29), type := 0, pos := "swift.go:54", after := #[{ on := 3, ground := Ground.data }, { on := 5, ground := Ground.data }, { on := 0, ground := Ground.phase }, { on := 1, ground := Ground.phase }, { on := 2, ground := Ground.phase }, { on := 3, ground := Ground.phase }, { on := 4, ground := Ground.phase }, { on := 5, ground := Ground.phase }, { on := 6, ground := Ground.phase }, { on := 7, ground := Ground.phase }, { on := 8, ground := Ground.phase }, { on := 9, ground := Ground.phase }, { on := 10, ground := Ground.phase }, { on := 11, ground := Ground.phase }, { on := 12, ground := Ground.phase }, { on := 13, ground := Ground.phase }, { on := 14, ground := Ground.phase }, { on := 15, ground := Ground.phase }, { on := 16, ground := Ground.phase }], guard := none }) (v := ?_) rfl (by kernel_rfl) (by kernel_rfl) (by kernel_rfl) (fun _ _ _ h => h) (Or.inl ⟨by rfl, ?hy23⟩) (by assumption) ?rest23
              case hy23 =>
                intro w hSw
                try dsimp only at hSw
                go_simp
                all_goals with_reducible rfl
              try simp only [Act.put, List.setIfInBounds_toArray, List.set_cons_zero, List.set_cons_succ]
              refine wpAnyH_ready (rs := [18]) (by kernel_rfl) (by simp) ?_
              refine AllReadyH.cons (o := { dst := none, op := Op.store 39 (Operand.tmp 41) (Operand.tmp 40), type := 0, pos := "swift.go:54", after := #[{ on := 17, ground := Ground.data }, { on := 16, ground := Ground.data }, { on := 16, ground := Ground.chain }, { on := 0, ground := Ground.phase }, { on := 1, ground := Ground.phase }, { on := 2, ground := Ground.phase }, { on := 3, ground := Ground.phase }, { on := 4, ground := Ground.phase }, { on := 5, ground := Ground.phase }, { on := 6, ground := Ground.phase }, { on := 7, ground := Ground.phase }, { on := 8, ground := Ground.phase }, { on := 9, ground := Ground.phase }, { on := 10, ground := Ground.phase }, { on := 11, ground := Ground.phase }, { on := 12, ground := Ground.phase }, { on := 13, ground := Ground.phase }, { on := 14, ground := Ground.phase }, { on := 15, ground := Ground.phase }, { on := 16, ground := Ground.phase }], guard := none }) rfl (fun K hK => ?step24) ?more24
              case step24 =>
                go_simp
                refine hK.out _ _ ?hs24 (fun hHeld => ?go24)
                case hs24 => exact kkB
                clear hK K
                try simp only [Act.put, List.setIfInBounds_toArray, List.set_cons_zero, List.set_cons_succ]
                refine wpAnyH_done (by kernel_rfl) ?_ _
                clear hHeld
                go_wp2
                go_roundw
                case rel => exact ⟨k + 1, by omega, by go_num, _, Hfl.out.1, Hfl.out.2.1, Hfl.out.2.2, Hfin.out⟩
                case measure => simp [intOf]; omega
              case more24 => exact AllReadyH.nil
            case more22 => exact AllReadyH.nil
          case more21 => exact AllReadyH.nil
        case more20 => exact AllReadyH.nil
    · have hge : ¬ (k : Int) < (n1 : Int) := by omega
      obtain rfl : k = n1 := by omega
      have hT := hE.beside
      have t4 := boxRow.cell hT (j := 4) rfl
      have tl := (boxRow.lt hT).2
      have hem2 : es'.map (·.2) = eyesL (c.es.map (·.2)) x.inn i := by rw [hem, List.take_of_length_le (by rw [← Hn1.out]; exact Nat.le_refl _)]
      have hEX := Lib.hid (show ∃ es1 : List (Value × List Int), es1.length = c.es.length ∧ es1.map (·.2) = eyesL (c.es.map (·.2)) x.inn i ∧ (∀ y ∈ es1, y.2.length ≤ 100000 + 1000) ∧ EgAt w0 v1 ((c.eyes es1).plus (boxRow tb 79 [.string sx, .int .i64 dl, .int .i64 pr, .slice a1 k c1, .slice a2 n2 c2, .slice a3 n3 c3])) e from ⟨es', hel, hem2, fun y hy => by have := hes y hy; omega, hE⟩)
      clear hT hel hem hes hE hem2
      go_wp2
      clear t4 tl
      obtain ⟨es1, hel, hem, hes, hE⟩ := hEX.out
      go_loopw [46] (fun s wr => ∃ q : Nat, q ≤ n2 ∧ s = .int .i64 q ∧ ∃ es' : List (Value × List Int), es'.length = c.es.length ∧ es'.map (·.2) = eyesL (eyesL (c.es.map (·.2)) x.inn i) (x.nt.take q) i ∧ (∀ x ∈ es', x.2.length ≤ 100000 + 1000 + q) ∧ EgAt w0 wr ((c.eyes es').plus (boxRow tb 79 [.string sx, .int .i64 dl, .int .i64 pr, .slice a1 k c1, .slice a2 n2 c2, .slice a3 n3 c3])) e) (fun s _ => n2 - (intOf s).toNat)
      case atStart => exact ⟨0, by omega, rfl, es1, hel, hem, fun y hy => by have := hes y hy; omega, hE⟩
      case round =>
        rename World => v3
        obtain ⟨q, hq, rfl, es', hel, hem, hes, hE⟩ := hrel
        by_cases hlt : q < n2
        · have hlti : (q : Int) < (n2 : Int) := by omega
          obtain ⟨⟨xp, xn⟩, hxk⟩ := at_lt (l := x.nt) (k := q) (by rw [← Hn2.out]; exact hlt)
          obtain ⟨bA, oA, eA, hbA, y0, y1⟩ := ArcsAt.at_ (HAr.out _ _ _ _ hE).2 hxk
          subst eA
          have hpos := (HN.out.nt x (List.mem_of_getElem? Hx.out) _ (List.mem_of_getElem? hxk)).1
          simp only at hpos
          obtain ⟨p, rfl⟩ : ∃ p : Nat, xp = p := ⟨xp.toNat, by omega⟩
          obtain ⟨⟨v, el⟩, hp⟩ := at_lt (l := es') (k := p) (by rw [hel, Hlen.out]; omega)
          have hsml := hes _ (List.mem_of_getElem? hp)
          simp only at hsml
          have h2 := hE.plusBox #[.int .i64 (p : Int), .int .i64 xn] 76
          obtain ⟨V, hV⟩ : ∃ V, V = v3.alloc (.cells #[.int .i64 (p : Int), .int .i64 xn] 76) := ⟨_, rfl⟩
          obtain ⟨ab, hab⟩ : ∃ ab, ab = v3.heap.size := ⟨_, rfl⟩
          rw [← hV, ← hab] at h2
          have h3 := h2.go (Below.refl _ _).drew
          obtain ⟨be, ce, av, dv, a4, n4, d4, w4, ve1, ve2, q1, ev, hr, ⟨m3, mb, mp, mf, ml⟩, hmore, hfin⟩ := h3.eyeAdd (p := p) (v := v) (es := el) hp (by omega) 39 (i : Int)
          subst ev
          have k3 := h2.cells.2.2.2.1
          have kb := h2.cells.2.2.2.2.2.2.2.2.1
          have hB := h2.beside
          have x0 := boxRow.cell hB (j := 0) rfl
          have xl := (boxRow.lt hB).2
          have hB4 := hmore (boxRow ab 76 [.int .i64 (p : Int), .int .i64 xn]) (by simp [EC.plus])
          have y4 := boxRow.cell hB4 (j := 0) rfl
          have yl := (boxRow.lt hB4).2
          simp only [EC.plus, EC.eyes] at k3 kb m3 mb ve1
          rw [← HB.out] at k3 kb m3 mb
          rw [ve1] at k3 m3
          have ve1x := ve1
          obtain ⟨ne, hne⟩ : ∃ ne, ne = es'.length := ⟨_, rfl⟩
          rw [← hne] at k3 m3
          have hpe : p < ne := by rw [hne, hel, Hlen.out]; omega
          have hpi : (p : Int) < (ne : Int) := by omega
          obtain ⟨le, hle⟩ : ∃ le, le = el.length := ⟨_, rfl⟩
          rw [← hle] at q1 mp hr
          have q1' : V.cell? ⟨be, p, none⟩ = some (.slice av le dv) := q1
          have ve2' : be < V.heap.size := ve2
          have Hfin := Lib.hid (show EgAt w0 (w4.setCell ⟨be, p, none⟩ (.slice a4 n4 d4)) ((c.eyes (es'.set p (.slice a4 n4 d4, el ++ [(i : Int)]))).plus _) e from EgAt.minus (r := boxRow ab 76 [.int .i64 (p : Int), .int .i64 xn]) hfin)
          have Hfl := Lib.hid (And.intro (show (es'.set p (Value.slice a4 n4 d4, el ++ [(i : Int)])).length = c.es.length by rw [List.length_set]; exact hel) (And.intro (show (es'.set p (Value.slice a4 n4 d4, el ++ [(i : Int)])).map (·.2) = eyesL (eyesL (c.es.map (·.2)) x.inn i) (x.nt.take (q + 1)) i by rw [eyesL_take hxk, eyeL_get hem hp]; rfl) (set_small (v' := .slice a4 n4 d4) (i := (i : Int)) hes hp)))
          have k3f := hfin.cells.2.2.2.1
          have x0f := boxRow.cell (hfin.fixed (r := boxRow ab 76 [.int .i64 (p : Int), .int .i64 xn]) (by unfold EC.fix EC.plus; simp)) (j := 0) rfl
          simp only [EC.plus, EC.eyes] at k3f
          rw [← HB.out, ve1x, ← hne] at k3f
          have kkA := And.intro m3 y4
          have kkB := And.intro k3f x0f
          have HV := Lib.hid hV
          have Hab := Lib.hid hab
          clear hel hem hes hE hxk hpos hp hsml h2 h3 hV hab hB hB4 hmore hfin hne hle q1 ve1 ve2 ve1x k3f x0f
          go_upto_region 9 with (fail)
          rw [← HV.out, ← Hab.out]
          clear HV Hab y0 y1 hbA
          refine wp_region_held_drew (S := (fun w' : World => w'.cell? ⟨B, 3, none⟩ = some (.slice (some ⟨be, 0, none⟩) ne ce) ∧ w'.cell? ⟨ab, 0, none⟩ = some (.int .i64 (p : Int)))) (by kernel_rfl) ⟨k3, x0⟩ (fun hHeld => ?_)
          refine wpAnyH_take (i := 0) (oi := { dst := some 50, op := Op.move (Operand.tmp 0), type := 63, pos := "swift.go:57", after := #[], guard := none }) (v := ?_) rfl (by kernel_rfl) (by kernel_rfl) (by kernel_rfl) (fun _ _ _ h => h) (Or.inl ⟨by rfl, ?hy25⟩) (by assumption) ?rest25
          case hy25 =>
            intro w hSw
            try dsimp only at hSw
            go_simp
            all_goals with_reducible rfl
          try simp only [Act.put, List.setIfInBounds_toArray, List.set_cons_zero, List.set_cons_succ]
          refine wpAnyH_take (i := 1) (oi := { dst := some 51, op := Op.nilCheck (Operand.tmp 50), type := 0, pos := "swift.go:57", after := #[{ on := 0, ground := Ground.data }], guard := none }) (v := ?_) rfl (by kernel_rfl) (by kernel_rfl) (by kernel_rfl) (fun _ _ _ h => h) (Or.inl ⟨by rfl, ?hy26⟩) (by assumption) ?rest26
          case hy26 =>
            intro w hSw
            try dsimp only at hSw
            go_simp
            all_goals with_reducible rfl
          try simp only [Act.put, List.setIfInBounds_toArray, List.set_cons_zero, List.set_cons_succ]
          refine wpAnyH_take (i := 2) (oi := { dst := some 52, op := Op.fieldAddr 105 (Operand.tmp 51) 2, type := 0, pos := "swift.go:57", after := #[{ on := 1, ground := Ground.data }], guard := none }) (v := ?_) rfl (by kernel_rfl) (by kernel_rfl) (by kernel_rfl) (fun _ _ _ h => h) (Or.inl ⟨by rfl, ?hy27⟩) (by assumption) ?rest27
          case hy27 =>
            intro w hSw
            try dsimp only at hSw
            go_simp
            all_goals with_reducible rfl
          try simp only [Act.put, List.setIfInBounds_toArray, List.set_cons_zero, List.set_cons_succ]
          refine wpAnyH_take (i := 3) (oi := { dst := some 53, op := Op.load 33 (Operand.tmp 52), type := 33, pos := "swift.go:57", after := #[{ on := 2, ground := Ground.data }], guard := none }) (v := ?_) rfl (by kernel_rfl) (by kernel_rfl) (by kernel_rfl) (fun _ _ _ h => h) (Or.inl ⟨by rfl, ?hy28⟩) (by assumption) ?rest28
          case hy28 =>
            intro w hSw
            try dsimp only at hSw
            go_simp
            all_goals with_reducible rfl
          try simp only [Act.put, List.setIfInBounds_toArray, List.set_cons_zero, List.set_cons_succ]
          refine wpAnyH_take (i := 4) (oi := { dst := some 54, op := Op.fieldAddr 76 (Operand.tmp 8) 0, type := 0, pos := "swift.go:57", after := #[], guard := none }) (v := ?_) rfl (by kernel_rfl) (by kernel_rfl) (by kernel_rfl) (fun _ _ _ h => h) (Or.inl ⟨by rfl, ?hy29⟩) (by assumption) ?rest29
          case hy29 =>
            intro w hSw
            try dsimp only at hSw
            go_simp
            all_goals with_reducible rfl
          try simp only [Act.put, List.setIfInBounds_toArray, List.set_cons_zero, List.set_cons_succ]
          refine wpAnyH_take (i := 5) (oi := { dst := some 55, op := Op.load 3 (Operand.tmp 54), type := 3, pos := "swift.go:57", after := #[{ on := 4, ground := Ground.data }], guard := none }) (v := ?_) rfl (by kernel_rfl) (by kernel_rfl) (by kernel_rfl) (fun _ _ _ h => h) (Or.inl ⟨by rfl, ?hy30⟩) (by assumption) ?rest30
          case hy30 =>
            intro w hSw
            try dsimp only at hSw
            go_simp
            all_goals with_reducible rfl
          try simp only [Act.put, List.setIfInBounds_toArray, List.set_cons_zero, List.set_cons_succ]
          refine wpAnyH_take (i := 6) (oi := { dst := some 56, op := Op.move (Operand.tmp 0), type := 63, pos := "swift.go:57", after := #[], guard := none }) (v := ?_) rfl (by kernel_rfl) (by kernel_rfl) (by kernel_rfl) (fun _ _ _ h => h) (Or.inl ⟨by rfl, ?hy31⟩) (by assumption) ?rest31
          case hy31 =>
            intro w hSw
            try dsimp only at hSw
            go_simp
            all_goals with_reducible rfl
          try simp only [Act.put, List.setIfInBounds_toArray, List.set_cons_zero, List.set_cons_succ]
          refine wpAnyH_take (i := 7) (oi := { dst := some 57, op := Op.nilCheck (Operand.tmp 56), type := 0, pos := "swift.go:57", after := #[{ on := 6, ground := Ground.data }], guard := none }) (v := ?_) rfl (by kernel_rfl) (by kernel_rfl) (by kernel_rfl) (fun _ _ _ h => h) (Or.inl ⟨by rfl, ?hy32⟩) (by assumption) ?rest32
          case hy32 =>
            intro w hSw
            try dsimp only at hSw
            go_simp
            all_goals with_reducible rfl
          try simp only [Act.put, List.setIfInBounds_toArray, List.set_cons_zero, List.set_cons_succ]
          refine wpAnyH_take (i := 8) (oi := { dst := some 58, op := Op.fieldAddr 105 (Operand.tmp 57) 2, type := 0, pos := "swift.go:57", after := #[{ on := 7, ground := Ground.data }], guard := none }) (v := ?_) rfl (by kernel_rfl) (by kernel_rfl) (by kernel_rfl) (fun _ _ _ h => h) (Or.inl ⟨by rfl, ?hy33⟩) (by assumption) ?rest33
          case hy33 =>
            intro w hSw
            try dsimp only at hSw
            go_simp
            all_goals with_reducible rfl
          try simp only [Act.put, List.setIfInBounds_toArray, List.set_cons_zero, List.set_cons_succ]
          refine wpAnyH_take (i := 9) (oi := { dst := some 59, op := Op.load 33 (Operand.tmp 58), type := 33, pos := "swift.go:57", after := #[{ on := 8, ground := Ground.data }], guard := none }) (v := ?_) rfl (by kernel_rfl) (by kernel_rfl) (by kernel_rfl) (fun _ _ _ h => h) (Or.inl ⟨by rfl, ?hy34⟩) (by assumption) ?rest34
          case hy34 =>
            intro w hSw
            try dsimp only at hSw
            go_simp
            all_goals with_reducible rfl
          try simp only [Act.put, List.setIfInBounds_toArray, List.set_cons_zero, List.set_cons_succ]
          refine wpAnyH_take (i := 10) (oi := { dst := some 60, op := Op.fieldAddr 76 (Operand.tmp 8) 0, type := 0, pos := "swift.go:57", after := #[], guard := none }) (v := ?_) rfl (by kernel_rfl) (by kernel_rfl) (by kernel_rfl) (fun _ _ _ h => h) (Or.inl ⟨by rfl, ?hy35⟩) (by assumption) ?rest35
          case hy35 =>
            intro w hSw
            try dsimp only at hSw
            go_simp
            all_goals with_reducible rfl
          try simp only [Act.put, List.setIfInBounds_toArray, List.set_cons_zero, List.set_cons_succ]
          refine wpAnyH_take (i := 11) (oi := { dst := some 61, op := Op.load 3 (Operand.tmp 60), type := 3, pos := "swift.go:57", after := #[{ on := 10, ground := Ground.data }], guard := none }) (v := ?_) rfl (by kernel_rfl) (by kernel_rfl) (by kernel_rfl) (fun _ _ _ h => h) (Or.inl ⟨by rfl, ?hy36⟩) (by assumption) ?rest36
          case hy36 =>
            intro w hSw
            try dsimp only at hSw
            go_simp
            all_goals with_reducible rfl
          try simp only [Act.put, List.setIfInBounds_toArray, List.set_cons_zero, List.set_cons_succ]
          refine wpAnyH_take (i := 12) (oi := { dst := some 62, op := Op.indexAddr 33 (Operand.tmp 59) (Operand.tmp 61), type := 0, pos := "swift.go:57", after := #[{ on := 9, ground := Ground.data }, { on := 11, ground := Ground.data }], guard := none }) (v := ?_) rfl (by kernel_rfl) (by kernel_rfl) (by kernel_rfl) (fun _ _ _ h => h) (Or.inl ⟨by rfl, ?hy37⟩) (by assumption) ?rest37
          case hy37 =>
            intro w hSw
            try dsimp only at hSw
            go_simp
            all_goals with_reducible rfl
          try simp only [Act.put, List.setIfInBounds_toArray, List.set_cons_zero, List.set_cons_succ]
          refine wpAnyH_take (i := 14) (oi := { dst := some 64, op := Op.move (Operand.tmp 1), type := 3, pos := "swift.go:57", after := #[], guard := none }) (v := ?_) rfl (by kernel_rfl) (by kernel_rfl) (by kernel_rfl) (fun _ _ _ h => h) (Or.inl ⟨by rfl, ?hy38⟩) (by assumption) ?rest38
          case hy38 =>
            intro w hSw
            try dsimp only at hSw
            go_simp
            all_goals with_reducible rfl
          try simp only [Act.put, List.setIfInBounds_toArray, List.set_cons_zero, List.set_cons_succ]
          refine wpAnyH_ready (rs := [13, 15]) (by kernel_rfl) (by simp) ?_
          refine AllReadyH.cons (o := { dst := some 63, op := Op.load 39 (Operand.tmp 62), type := 39, pos := "swift.go:57", after := #[{ on := 12, ground := Ground.data }], guard := none }) rfl (fun K hK => ?step39) ?more39
          case step39 =>
            go_simp
            refine hK.out _ _ ?hs39 (fun hHeld => ?go39)
            case hs39 => assumption
            clear hK K
            try simp only [Act.put, List.setIfInBounds_toArray, List.set_cons_zero, List.set_cons_succ]
            refine wpAnyH_ready (rs := [15]) (by kernel_rfl) (by simp) ?_
            refine AllReadyH.cons (o := { dst := some 65, op := Op.buildSlice 39 1 #[(0, Operand.tmp 64)], type := 39, pos := "swift.go:57", after := #[{ on := 14, ground := Ground.data }], guard := none }) rfl (fun K hK => ?step40) ?more40
            case step40 =>
              go_simp
              refine hK.out _ _ ?hs40 (fun hHeld => ?go40)
              case hs40 => go_simp
              clear hK K
              try simp only [Act.put, List.setIfInBounds_toArray, List.set_cons_zero, List.set_cons_succ]
              refine wpAnyH_ready (rs := [16]) (by kernel_rfl) (by simp) ?_
              refine AllReadyH.cons (o := { dst := some 66, op := Op.call { callee := Callee.builtin Builtin.append, args := #[Operand.tmp 63, Operand.tmp 65], argTypes := #[39, 39] }, type := 39, pos := "swift.go:57", after := #[{ on := 13, ground := Ground.data }, { on := 15, ground := Ground.data }], guard := none }) rfl (fun K hK => ?step41) ?more41
              case step41 =>
                refine step_append_eq (by rfl) (.tmp 63) (.tmp 65) 39 (by rfl) (by rfl) (by rfl) hr ?_
                refine hK.out _ _ ?hs41 (fun hHeld => ?go41)
                case hs41 => exact kkA
                clear hK K
                try simp only [Act.put, List.setIfInBounds_toArray, List.set_cons_zero, List.set_cons_succ]
                refine wpAnyH_take (i := 17) (oi := { dst := some 67, op := Op.indexAddr 33 (Operand.tmp 53) (Operand.tmp 55), type := 0, pos := "swift.go:57", after := #[{ on := 3, ground := Ground.data }, { on := 5, ground := Ground.data }, { on := 0, ground := Ground.phase }, { on := 1, ground := Ground.phase }, { on := 2, ground := Ground.phase }, { on := 3, ground := Ground.phase }, { on := 4, ground := Ground.phase }, { on := 5, ground := Ground.phase }, { on := 6, ground := Ground.phase }, { on := 7, ground := Ground.phase }, { on := 8, ground := Ground.phase }, { on := 9, ground := Ground.phase }, { on := 10, ground := Ground.phase }, { on := 11, ground := Ground.phase }, { on := 12, ground := Ground.phase }, { on := 13, ground := Ground.phase }, { on := 14, ground := Ground.phase }, { on := 15, ground := Ground.phase }, { on := 16, ground := Ground.phase }], guard := none }) (v := ?_) rfl (by kernel_rfl) (by kernel_rfl) (by kernel_rfl) (fun _ _ _ h => h) (Or.inl ⟨by rfl, ?hy42⟩) (by assumption) ?rest42
                case hy42 =>
                  intro w hSw
                  try dsimp only at hSw
                  go_simp
                  all_goals with_reducible rfl
                try simp only [Act.put, List.setIfInBounds_toArray, List.set_cons_zero, List.set_cons_succ]
                refine wpAnyH_ready (rs := [18]) (by kernel_rfl) (by simp) ?_
                refine AllReadyH.cons (o := { dst := none, op := Op.store 39 (Operand.tmp 67) (Operand.tmp 66), type := 0, pos := "swift.go:57", after := #[{ on := 17, ground := Ground.data }, { on := 16, ground := Ground.data }, { on := 16, ground := Ground.chain }, { on := 0, ground := Ground.phase }, { on := 1, ground := Ground.phase }, { on := 2, ground := Ground.phase }, { on := 3, ground := Ground.phase }, { on := 4, ground := Ground.phase }, { on := 5, ground := Ground.phase }, { on := 6, ground := Ground.phase }, { on := 7, ground := Ground.phase }, { on := 8, ground := Ground.phase }, { on := 9, ground := Ground.phase }, { on := 10, ground := Ground.phase }, { on := 11, ground := Ground.phase }, { on := 12, ground := Ground.phase }, { on := 13, ground := Ground.phase }, { on := 14, ground := Ground.phase }, { on := 15, ground := Ground.phase }, { on := 16, ground := Ground.phase }], guard := none }) rfl (fun K hK => ?step43) ?more43
                case step43 =>
                  go_simp
                  refine hK.out _ _ ?hs43 (fun hHeld => ?go43)
                  case hs43 => exact kkB
                  clear hK K
                  try simp only [Act.put, List.setIfInBounds_toArray, List.set_cons_zero, List.set_cons_succ]
                  refine wpAnyH_done (by kernel_rfl) ?_ _
                  clear hHeld
                  go_wp2
                  go_roundw
                  case rel => exact ⟨q + 1, by omega, by go_num, _, Hfl.out.1, Hfl.out.2.1, Hfl.out.2.2, Hfin.out⟩
                  case measure => simp [intOf]; omega
                case more43 => exact AllReadyH.nil
              case more41 => exact AllReadyH.nil
            case more40 => exact AllReadyH.nil
          case more39 =>
            refine AllReadyH.cons (o := { dst := some 65, op := Op.buildSlice 39 1 #[(0, Operand.tmp 64)], type := 39, pos := "swift.go:57", after := #[{ on := 14, ground := Ground.data }], guard := none }) rfl (fun K hK => ?step44) ?more44
            case step44 =>
              go_simp
              refine hK.out _ _ ?hs44 (fun hHeld => ?go44)
              case hs44 => go_simp
              clear hK K
              try simp only [Act.put, List.setIfInBounds_toArray, List.set_cons_zero, List.set_cons_succ]
              refine wpAnyH_ready (rs := [13]) (by kernel_rfl) (by simp) ?_
              refine AllReadyH.cons (o := { dst := some 63, op := Op.load 39 (Operand.tmp 62), type := 39, pos := "swift.go:57", after := #[{ on := 12, ground := Ground.data }], guard := none }) rfl (fun K hK => ?step45) ?more45
              case step45 =>
                go_simp
                refine hK.out _ _ ?hs45 (fun hHeld => ?go45)
                case hs45 => assumption
                clear hK K
                try simp only [Act.put, List.setIfInBounds_toArray, List.set_cons_zero, List.set_cons_succ]
                refine wpAnyH_ready (rs := [16]) (by kernel_rfl) (by simp) ?_
                refine AllReadyH.cons (o := { dst := some 66, op := Op.call { callee := Callee.builtin Builtin.append, args := #[Operand.tmp 63, Operand.tmp 65], argTypes := #[39, 39] }, type := 39, pos := "swift.go:57", after := #[{ on := 13, ground := Ground.data }, { on := 15, ground := Ground.data }], guard := none }) rfl (fun K hK => ?step46) ?more46
                case step46 =>
                  refine step_append_eq (by rfl) (.tmp 63) (.tmp 65) 39 (by rfl) (by rfl) (by rfl) hr ?_
                  refine hK.out _ _ ?hs46 (fun hHeld => ?go46)
                  case hs46 => exact kkA
                  clear hK K
                  try simp only [Act.put, List.setIfInBounds_toArray, List.set_cons_zero, List.set_cons_succ]
                  refine wpAnyH_take (i := 17) (oi := { dst := some 67, op := Op.indexAddr 33 (Operand.tmp 53) (Operand.tmp 55), type := 0, pos := "swift.go:57", after := #[{ on := 3, ground := Ground.data }, { on := 5, ground := Ground.data }, { on := 0, ground := Ground.phase }, { on := 1, ground := Ground.phase }, { on := 2, ground := Ground.phase }, { on := 3, ground := Ground.phase }, { on := 4, ground := Ground.phase }, { on := 5, ground := Ground.phase }, { on := 6, ground := Ground.phase }, { on := 7, ground := Ground.phase }, { on := 8, ground := Ground.phase }, { on := 9, ground := Ground.phase }, { on := 10, ground := Ground.phase }, { on := 11, ground := Ground.phase }, { on := 12, ground := Ground.phase }, { on := 13, ground := Ground.phase }, { on := 14, ground := Ground.phase }, { on := 15, ground := Ground.phase }, { on := 16, ground := Ground.phase }], guard := none }) (v := ?_) rfl (by kernel_rfl) (by kernel_rfl) (by kernel_rfl) (fun _ _ _ h => h) (Or.inl ⟨by rfl, ?hy47⟩) (by assumption) ?rest47
                  case hy47 =>
                    intro w hSw
                    try dsimp only at hSw
                    go_simp
                    all_goals with_reducible rfl
                  try simp only [Act.put, List.setIfInBounds_toArray, List.set_cons_zero, List.set_cons_succ]
                  refine wpAnyH_ready (rs := [18]) (by kernel_rfl) (by simp) ?_
                  refine AllReadyH.cons (o := { dst := none, op := Op.store 39 (Operand.tmp 67) (Operand.tmp 66), type := 0, pos := "swift.go:57", after := #[{ on := 17, ground := Ground.data }, { on := 16, ground := Ground.data }, { on := 16, ground := Ground.chain }, { on := 0, ground := Ground.phase }, { on := 1, ground := Ground.phase }, { on := 2, ground := Ground.phase }, { on := 3, ground := Ground.phase }, { on := 4, ground := Ground.phase }, { on := 5, ground := Ground.phase }, { on := 6, ground := Ground.phase }, { on := 7, ground := Ground.phase }, { on := 8, ground := Ground.phase }, { on := 9, ground := Ground.phase }, { on := 10, ground := Ground.phase }, { on := 11, ground := Ground.phase }, { on := 12, ground := Ground.phase }, { on := 13, ground := Ground.phase }, { on := 14, ground := Ground.phase }, { on := 15, ground := Ground.phase }, { on := 16, ground := Ground.phase }], guard := none }) rfl (fun K hK => ?step48) ?more48
                  case step48 =>
                    go_simp
                    refine hK.out _ _ ?hs48 (fun hHeld => ?go48)
                    case hs48 => exact kkB
                    clear hK K
                    try simp only [Act.put, List.setIfInBounds_toArray, List.set_cons_zero, List.set_cons_succ]
                    refine wpAnyH_done (by kernel_rfl) ?_ _
                    clear hHeld
                    go_wp2
                    go_roundw
                    case rel => exact ⟨q + 1, by omega, by go_num, _, Hfl.out.1, Hfl.out.2.1, Hfl.out.2.2, Hfin.out⟩
                    case measure => simp [intOf]; omega
                  case more48 => exact AllReadyH.nil
                case more46 => exact AllReadyH.nil
              case more45 => exact AllReadyH.nil
            case more44 => exact AllReadyH.nil
        · have hge : ¬ (q : Int) < (n2 : Int) := by omega
          obtain rfl : q = n2 := by omega
          have Hel := Lib.hid hel
          have Hem := Lib.hid (show es'.map (·.2) = eyesL (eyesL (c.es.map (·.2)) x.inn i) x.nt i by rw [hem, List.take_of_length_le (by rw [← Hn2.out]; exact Nat.le_refl _)])
          have Hf := Lib.hid hE.minus
          clear hel hem hes hE
          go_wp2
          go_end0
          exact ⟨rfl, es', Hel.out, Hem.out, Hf.out⟩
end Go.Proofs.Ytpbbdnicafifpaa
