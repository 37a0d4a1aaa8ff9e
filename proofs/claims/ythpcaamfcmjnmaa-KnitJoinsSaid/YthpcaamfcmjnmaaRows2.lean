/-
  A slice of slices of ints that the call has made: a row for each, all apart; an empty row put at its end; a number put at the end of one of its rows.
  Conditions: none beyond each theorem's own.
-/
import Derived.Test.YthpcaamfcmjnmaaKept
import Derived.Maps.AppendAt
import Derived.OwnWalk
namespace Go.Proofs.Ythpcaamfcmjnmaa
open Go.RowKit
set_option linter.unusedVariables false

theorem Try.infoInt : (Try.prog.info? 3).map (fun i => (i.zero, i.size, i.bytes)) = some (some (.int .i64 0), 1, 8) := by kernel_rfl
theorem Try.infoInts : (Try.prog.info? 46).map (fun i => (i.zero, i.size, i.bytes)) = some (some (.slice none 0 0), 1, 24) := by kernel_rfl

/-- append as one operation, by an equation on what it comes to -/
theorem wpList_append_eq {P : Program} {w w' : World} {ops : Array Oper} {rest : List Oper} {o : Oper} {a : Act} {Q : Exit → Act → World → Prop} (hgd : o.guard = none) (s x : Operand) (t : TypeId)
    (ho : o.op = .call { callee := .builtin .append, args := #[s, x], argTypes := #[t, t] }) {v y v' : Value} (hs : a.eval s = v) (hx : a.eval x = y)
    (hr : (Builtin.append_ #[t, t] o.type #[v, y]).run P w = .ok v' w') (h : wpList P ops Q rest (a.put o.dst v') w') : wpList P ops Q (o :: rest) a w := by
  refine wpList_plain hgd fun K hK => ?_
  unfold Oper.wp execOp
  simp only [ho, resolve, invoke, builtin, Sem.run_bind, Sem.run_pure, Result.andThen_ok, List.map_toArray, List.map_cons, List.map_nil, hs, hx, hr]
  exact hK _ _ h

/-- append as one step of a region that draws, by an equation on what it comes to -/
theorem step_append_eq {P : Program} {w w' : World} {ops : Array Oper} {o : Oper} {a : Act} {K : Act → World → Prop} {Q : Exit → Act → World → Prop} {E : Prop} (hgd : o.guard = none) (s x : Operand) (t : TypeId)
    (ho : o.op = .call { callee := .builtin .append, args := #[s, x], argTypes := #[t, t] }) {v y v' : Value} (hs : a.eval s = v) (hx : a.eval x = y)
    (hr : (Builtin.append_ #[t, t] o.type #[v, y]).run P w = .ok v' w') (h : K (a.put o.dst v') w') :
    if Region.wanted o (yielded ops a.tmps) = true then Oper.wp P o a w K Q else E := by
  have hw : Region.wanted o (yielded ops a.tmps) = true := by simp [Region.wanted, hgd]
  rw [if_pos hw]
  unfold Oper.wp execOp
  simp only [ho, resolve, invoke, builtin, Sem.run_bind, Sem.run_pure, Result.andThen_ok, List.map_toArray, List.map_cons, List.map_nil, hs, hx, hr]
  exact h

/-- a row's cells -/
def ints (l : List Nat) : List Value := l.map (fun c : Nat => Value.int .i64 (c : Int))

theorem ints_len (l : List Nat) : (ints l).length = l.length := by simp [ints]
theorem ints_snoc (l : List Nat) (x : Nat) : ints (l ++ [x]) = ints l ++ [.int .i64 (x : Int)] := by simp [ints]

theorem ownS {S : Nat → Prop} {w w' : World} {B e n size : Nat} {v : Value} {xs : List Value} (h : w.ownsRow B e size v n xs) (hk : Kept S w w') (hn : ∀ r, v.ownBlock = some r → ¬ S r) : w'.ownsRow B e size v n xs := by
  refine ⟨h.1, ?_⟩
  rcases h.2 with h0 | ⟨r, cap, cur, rfl, hBr, hb, rest⟩
  · exact .inl h0
  · exact .inr ⟨r, cap, cur, rfl, hBr, (hk.block r (Array.getElem?_eq_some_iff.1 hb).1 (hn r (by simp [Value.ownBlock]))).trans hb, rest⟩

theorem own_form {w : World} {B e n size : Nat} {v : Value} {xs : List Value} (h : w.ownsRow B e size v n xs) : ∃ a cap, v = .slice a n cap := by
  rcases h.2 with ⟨rfl, h0⟩ | ⟨r, cap, _, rfl, _⟩
  · exact ⟨none, 0, by rw [h0]⟩
  · exact ⟨_, cap, rfl⟩

theorem cell_new1 (w : World) (u : Value) (t : TypeId) : ∀ j x, [u][j]? = some x → (w.alloc (.cells #[u] t)).cell? ((⟨w.heap.size, 0, none⟩ : Addr).add j) = some x := by
  intro j x hj
  have hb := heap_alloc_new w (.cells #[u] t)
  have e : (⟨w.heap.size, 0, none⟩ : Addr).add j = ⟨w.heap.size, j, none⟩ := by simp [Addr.add]; omega
  rw [e, cell_of_row _ _ j _ _ (0, 0) hb, ← hj]
  simp

/-- 'append(l, x)', l a row of the call's own -/
theorem run_push_int {B : Nat} {v : Value} {l : List Nat} (ty : TypeId) (x : Nat) {w : World} (h : w.ownsRow B 3 1 v l.length (ints l)) (hl : l.length ≤ 1000000) (hB : B ≤ w.heap.size) :
    ∃ v' w', (Builtin.append_ #[46, 46] ty #[v, .slice (some ⟨w.heap.size, 0, none⟩) 1 1]).run Try.prog (w.alloc (.cells #[.int .i64 (x : Int)] 3)) = .ok v' w' ∧ w'.ownsRow B 3 1 v' (l ++ [x]).length (ints (l ++ [x])) ∧
      Kept (fun k => v.ownBlock = some k) w w' ∧ (v'.ownBlock = v.ownBlock ∨ v'.ownBlock = some (w.heap.size + 1)) := by
  obtain ⟨i0, hi0, hz0, hz1, hz2⟩ := info_parts Try.infoInt
  obtain ⟨v', w', hr, h2, h3, _, h5⟩ := run_append_own_at (P := Try.prog) (w.alloc (.cells #[.int .i64 (x : Int)] 3)) B 46 ty 3 i0 _ 1 8 Try.underlying46 hi0 hz0 hz1 hz2 rfl (by omega) v l.length (ints l) (h.alloc _)
    ⟨w.heap.size, 0, none⟩ 1 1 [.int .i64 (x : Int)] rfl (cell_new1 w _ _) (by simp [Value.oneCell']) (by unfold maxLen; omega) (by omega) (by simp; omega)
  refine ⟨v', w', hr, by rw [ints_snoc, List.length_append]; exact h2, ((Kept.refl _ w).alloc _).grown h3 (fun _ h => h), by simpa using h5⟩

/-- 'append(l, nil)', l a row of rows of the call's own -/
theorem run_push_nil {B n : Nat} {v : Value} {vs : List Value} (ty : TypeId) {w : World} (h : w.ownsRow B 46 1 v n vs) (hl : n ≤ 1000000) (hB : B ≤ w.heap.size) :
    ∃ v' w', (Builtin.append_ #[41, 41] ty #[v, .slice (some ⟨w.heap.size, 0, none⟩) 1 1]).run Try.prog (w.alloc (.cells #[.slice none 0 0] 46)) = .ok v' w' ∧ w'.ownsRow B 46 1 v' (n + 1) (vs ++ [.slice none 0 0]) ∧
      Kept (fun k => v.ownBlock = some k) w w' ∧ (v'.ownBlock = v.ownBlock ∨ v'.ownBlock = some (w.heap.size + 1)) := by
  obtain ⟨i0, hi0, hz0, hz1, hz2⟩ := info_parts Try.infoInts
  obtain ⟨v', w', hr, h2, h3, _, h5⟩ := run_append_own_at (P := Try.prog) (w.alloc (.cells #[.slice none 0 0] 46)) B 41 ty 46 i0 _ 1 24 Try.underlying41 hi0 hz0 hz1 hz2 rfl (by omega) v n vs (h.alloc _)
    ⟨w.heap.size, 0, none⟩ 1 1 [.slice none 0 0] rfl (cell_new1 w _ _) (by simp [Value.oneCell']) (by unfold maxLen; omega) (by omega) (by simp; omega)
  refine ⟨v', w', hr, h2, ((Kept.refl _ w).alloc _).grown h3 (fun _ h => h), by simpa using h5⟩

/-- v is a slice of the slices vs, that hold G; all are apart, and none lies below B -/
structure Rows2 (B : Nat) (w : World) (v : Value) (vs : List Value) (G : List (List Nat)) : Prop where
  out : w.ownsRow B 46 1 v G.length vs
  row : ∀ i, i < G.length → w.ownsRow B 3 1 (vs.getD i undef) (G.getD i []).length (ints (G.getD i []))
  apart : ∀ i j k, i < G.length → j < G.length → (vs.getD i undef).ownBlock = some k → (vs.getD j undef).ownBlock = some k → i = j
  off : ∀ i k, i < G.length → (vs.getD i undef).ownBlock = some k → v.ownBlock ≠ some k

section
variable {B : Nat} {w w' : World} {v : Value} {vs : List Value} {G : List (List Nat)}

theorem Rows2.len (h : Rows2 B w v vs G) : vs.length = G.length := by have := h.out.1; omega

theorem Rows2.nil (B : Nat) (w : World) : Rows2 B w (.slice none 0 0) [] [] :=
  ⟨World.ownsRow_nil _ _ _ _, fun i h => by simp at h, fun i j k h => by simp at h, fun i k h => by simp at h⟩

theorem Rows2.kept {S : Nat → Prop} (h : Rows2 B w v vs G) (hk : Kept S w w') (hS : ∀ k, B ≤ k → ¬ S k) : Rows2 B w' v vs G :=
  ⟨ownS h.out hk (fun r hr => hS r (h.out.lt r hr).1), fun i hi => ownS (h.row i hi) hk (fun r hr => hS r ((h.row i hi).lt r hr).1), h.apart, h.off⟩

theorem Rows2.below (h : Rows2 B w v vs G) (hb : Below w.heap.size w w') : Rows2 B w' v vs G :=
  h.kept (S := fun _ => False) (Kept.of_below hb) (fun _ _ e => e)

theorem Rows2.form (h : Rows2 B w v vs G) : ∃ a cap, v = .slice a G.length cap := by
  rcases h.out.2 with ⟨rfl, h0⟩ | ⟨r, cap, _, rfl, _⟩
  · exact ⟨none, 0, by rw [h0]⟩
  · exact ⟨_, cap, rfl⟩

theorem Rows2.rowform (h : Rows2 B w v vs G) (i : Nat) (hi : i < G.length) : ∃ a cap, vs.getD i undef = .slice a (G.getD i []).length cap := by
  rcases (h.row i hi).2 with ⟨h1, h0⟩ | ⟨r, cap, _, h1, _⟩
  · exact ⟨none, 0, by rw [h0]; exact h1⟩
  · exact ⟨_, cap, h1⟩

/-- an empty row put at the end -/
theorem Rows2.push {v' : Value} (h : Rows2 B w v vs G) (h1 : w'.ownsRow B 46 1 v' (G.length + 1) (vs ++ [.slice none 0 0])) (hk : Kept (fun k => v.ownBlock = some k) w w')
    (hv : v'.ownBlock = v.ownBlock ∨ v'.ownBlock = some (w.heap.size + 1)) : Rows2 B w' v' (vs ++ [.slice none 0 0]) (G ++ [[]]) := by
  have hl := h.len
  have e : ∀ i, i < G.length → (vs ++ [Value.slice none 0 0]).getD i undef = vs.getD i undef := by
    intro i hi
    simp [List.getD, List.getElem?_append, show i < vs.length by omega]
  have e2 : (vs ++ [Value.slice none 0 0]).getD G.length undef = .slice none 0 0 := by simp [List.getD, ← hl]
  have eG : ∀ i, i < G.length → (G ++ [[]]).getD i [] = G.getD i [] := by intro i hi; simp [List.getD, List.getElem?_append, hi]
  refine ⟨by simpa using h1, ?_, ?_, ?_⟩
  · intro i hi
    simp at hi
    by_cases hlt : i < G.length
    · rw [e i hlt, eG i hlt]
      exact ownS (h.row i hlt) hk (fun r hr => h.off i r hlt hr)
    · obtain rfl : i = G.length := by omega
      rw [e2]
      simp [List.getD, ints]
      exact World.ownsRow_nil _ _ _ _
  · intro i j k hi hj h1 h2
    simp at hi hj
    by_cases hi2 : i < G.length
    · by_cases hj2 : j < G.length
      · rw [e i hi2] at h1; rw [e j hj2] at h2; exact h.apart i j k hi2 hj2 h1 h2
      · obtain rfl : j = G.length := by omega
        rw [e2] at h2; simp [Value.ownBlock] at h2
    · obtain rfl : i = G.length := by omega
      rw [e2] at h1; simp [Value.ownBlock] at h1
  · intro i k hi h1
    simp at hi
    by_cases hi2 : i < G.length
    · rw [e i hi2] at h1
      rcases hv with hv | hv
      · rw [hv]; exact h.off i k hi2 h1
      · rw [hv]
        intro e
        injection e with e
        have := ((h.row i hi2).lt k h1).2
        omega
    · obtain rfl : i = G.length := by omega
      rw [e2] at h1; simp [Value.ownBlock] at h1

/-- a number put at the end of row k -/
theorem Rows2.add {r cap k x : Nat} {w2 : World} {v2 : Value} (h : Rows2 B w (.slice (some ⟨r, 0, none⟩) G.length cap) vs G) (hkl : k < G.length)
    (h1 : w2.ownsRow B 3 1 v2 (G.getD k [] ++ [x]).length (ints (G.getD k [] ++ [x]))) (hk : Kept (fun j => (vs.getD k undef).ownBlock = some j) w w2) (hv : v2.ownBlock = (vs.getD k undef).ownBlock ∨ v2.ownBlock = some (w.heap.size + 1)) :
    Rows2 B (w2.setCell ⟨r, k, none⟩ v2) (.slice (some ⟨r, 0, none⟩) G.length cap) (vs.set k v2) (G.set k (G.getD k [] ++ [x])) ∧ Kept (fun j => B ≤ j) w (w2.setCell ⟨r, k, none⟩ v2) := by
  have hl := h.len
  have hr := h.out.lt r (by simp [Value.ownBlock])
  have hrow := h.row k hkl
  have hr2 : v2.ownBlock ≠ some r := by
    intro e
    rcases hv with hv | hv
    · rw [hv] at e; exact h.off k r hkl e (by simp [Value.ownBlock])
    · rw [hv] at e; injection e with e; omega
  have ho2 := ownS h.out hk (fun j hj e => h.off k j hkl e (by simpa [Value.ownBlock] using hj))
  obtain ⟨ho3, hg3⟩ := ho2.stored k v2
  have hk3 : Kept (fun j => j = r) w2 (w2.setCell ⟨r, k, none⟩ v2) := (Kept.refl _ w2).grown hg3 (fun j e => by injection e with e; exact e.symm)
  have e1 : (vs.set k v2).getD k undef = v2 := by simp [List.getD, show k < vs.length by omega]
  have e2 : ∀ i, i ≠ k → (vs.set k v2).getD i undef = vs.getD i undef := by intro i hi; simp [List.getD, List.getElem?_set_ne (Ne.symm hi)]
  have e3 : (G.set k (G.getD k [] ++ [x])).getD k [] = G.getD k [] ++ [x] := by simp [List.getD, hkl]
  have e4 : ∀ i, i ≠ k → (G.set k (G.getD k [] ++ [x])).getD i [] = G.getD i [] := by intro i hi; simp [List.getD, List.getElem?_set_ne (Ne.symm hi)]
  have fresh : ∀ i j, i < G.length → i ≠ k → (vs.getD i undef).ownBlock = some j → v2.ownBlock ≠ some j := by
    intro i j hi hik h1 h2
    rcases hv with hv | hv
    · rw [hv] at h2; exact hik (h.apart i k j hi hkl h1 h2)
    · rw [hv] at h2; injection h2 with h2; have := ((h.row i hi).lt j h1).2; omega
  refine ⟨⟨by simpa using ho3, ?_, ?_, ?_⟩, (hk.mono (fun j _ hj => (hrow.lt j hj).1)).trans (hk3.mono (fun j _ hj => by omega))⟩
  · intro i hi
    simp at hi
    by_cases hik : i = k
    · subst hik
      rw [e1, e3]
      exact ownS h1 hk3 (fun j hj e => hr2 (by rw [hj, e]))
    · rw [e2 i hik, e4 i hik]
      refine ownS (ownS (h.row i hi) hk (fun j hj e => hik (h.apart i k j hi hkl hj e))) hk3 (fun j hj e => h.off i j hi hj (by simp [Value.ownBlock, e]))
  · intro i j n hi hj f1 f2
    simp at hi hj
    by_cases hik : i = k
    · subst hik
      rw [e1] at f1
      by_cases hjk : j = i
      · exact hjk.symm
      · rw [e2 j hjk] at f2
        exact absurd f1 (fresh j n hj hjk f2)
    · rw [e2 i hik] at f1
      by_cases hjk : j = k
      · subst hjk
        rw [e1] at f2
        exact absurd f2 (fresh i n hi hik f1)
      · rw [e2 j hjk] at f2
        exact h.apart i j n hi hj f1 f2
  · intro i n hi f1
    simp at hi
    by_cases hik : i = k
    · subst hik
      rw [e1] at f1
      intro e
      simp [Value.ownBlock] at e
      exact hr2 (by rw [f1, e])
    · rw [e2 i hik] at f1
      exact h.off i n hi f1

/-- where a row that isn't empty lies -/
theorem Rows2.place (h : Rows2 B w v vs G) (hG : 0 < G.length) : ∃ r cap, v = .slice (some ⟨r, 0, none⟩) G.length cap ∧ B ≤ r ∧ r < w.heap.size ∧ (∀ i, i < G.length → w.cell? ⟨r, i, none⟩ = some (vs.getD i undef) ∧ w.frozen? ⟨r, i, none⟩ = false) := by
  have hl := h.len
  rcases h.out.2 with ⟨_, h0⟩ | ⟨r, cap, cur, rfl, hB, hb, _⟩
  · omega
  · refine ⟨r, cap, rfl, hB, (Array.getElem?_eq_some_iff.1 hb).1, fun i hi => ⟨?_, h.out.frozenAt i⟩⟩
    rw [h.out.cellAt i (by omega)]
    simp [List.getD, show i < vs.length by omega]

end

end Go.Proofs.Ythpcaamfcmjnmaa
