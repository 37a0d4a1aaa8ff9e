/-
  A slice of pairs that the call has made; which elements stand first in groups.
  Conditions: none beyond each theorem's own.
-/
import Derived.Test.YthpcaamfcmjnmaaRefSame
namespace Go.Proofs.Ythpcaamfcmjnmaa
open Go.RowKit
set_option linter.unusedVariables false

theorem Try.infoPair : (Try.prog.info? 39).map (fun i => (i.zero, i.size, i.bytes)) = some (some (.agg #[.int .i64 0, .int .i64 0]), 2, 16) := by kernel_rfl

/-- the cells of a list of pairs -/
def pcells (ls : List (Int × Int)) : List Value := ls.flatMap (fun p => [.int .i64 p.1, .int .i64 p.2])

theorem pcells_snoc (ls : List (Int × Int)) (x y : Int) : pcells (ls ++ [(x, y)]) = pcells ls ++ [.int .i64 x, .int .i64 y] := by simp [pcells]

theorem pcells_at (ls : List (Int × Int)) : ∀ (i j : Nat), i < ls.length → j < 2 → (pcells ls)[i * 2 + j]? = ([.int .i64 (at2 ls i).1, .int .i64 (at2 ls i).2] : List Value)[j]? := by
  induction ls with
  | nil => intro i j h; simp at h
  | cons p l ih =>
    intro i j hi hj
    have e : pcells (p :: l) = .int .i64 p.1 :: .int .i64 p.2 :: pcells l := by simp [pcells]
    rw [e]
    cases i with
    | zero =>
      match j, hj with
      | 0, _ => simp [at2]
      | 1, _ => simp [at2]
    | succ i =>
      rw [show (i + 1) * 2 + j = (i * 2 + j) + 1 + 1 by omega, List.getElem?_cons_succ, List.getElem?_cons_succ, ih i j (by simpa using hi) hj]
      simp [at2]

/-- the pairs are ints -/
def WfP (ls : List (Int × Int)) : Prop := ∀ i, i < ls.length → (Lit.int .i64 (at2 ls i).1).wf = true ∧ (Lit.int .i64 (at2 ls i).2).wf = true

theorem WfP.snoc {ls : List (Int × Int)} (h : WfP ls) {x y : Int} (hx : (Lit.int .i64 x).wf = true) (hy : (Lit.int .i64 y).wf = true) : WfP (ls ++ [(x, y)]) := by
  intro i hi
  simp at hi
  by_cases hlt : i < ls.length
  · have e : at2 (ls ++ [(x, y)]) i = at2 ls i := by simp [at2, List.getElem?_append, hlt]
    rw [e]; exact h i hlt
  · obtain rfl : i = ls.length := by omega
    have e : at2 (ls ++ [(x, y)]) ls.length = (x, y) := by simp [at2]
    rw [e]; exact ⟨hx, hy⟩

theorem own_reads {B : Nat} {w : World} {a : Option Addr} {n c : Nat} {ls : List (Int × Int)} (h : w.ownsRow B 39 2 (.slice a n c) ls.length (pcells ls)) (hw : WfP ls) : ReadsP .i64 w a ls := by
  rcases h.2 with ⟨_, h0⟩ | ⟨r, cap, cur, hv, hB, hb, _⟩
  · left; exact List.eq_nil_of_length_eq_zero h0
  · have h2 := h
    rw [hv] at h2
    injection hv with h1 h3 h4
    subst h1
    refine .inr ⟨r, 0, rfl, (Array.getElem?_eq_some_iff.1 hb).1, fun i hi => ⟨?_, ?_, hw i hi⟩⟩
    · rw [Nat.zero_add, h2.cellAt (i * 2) (by omega)]
      have := pcells_at ls i 0 hi (by omega)
      simpa using this
    · rw [Nat.zero_add, h2.cellAt (i * 2 + 1) (by omega), pcells_at ls i 1 hi (by omega)]
      rfl

theorem cell_new2 (w : World) (u v : Value) (t : TypeId) : ∀ j x, [u, v][j]? = some x → (w.alloc (.cells #[u, v] t)).cell? ((⟨w.heap.size, 0, none⟩ : Addr).add j) = some x := by
  intro j x hj
  have hb := heap_alloc_new w (.cells #[u, v] t)
  have e : (⟨w.heap.size, 0, none⟩ : Addr).add j = ⟨w.heap.size, j, none⟩ := by simp [Addr.add]; omega
  rw [e, cell_of_row _ _ j _ _ (0, 0) hb, ← hj]
  simp

/-- 'append(done, p)' -/
theorem run_push_pair {B : Nat} {v : Value} {ls : List (Int × Int)} (ty : TypeId) (x y : Int) {w : World} (h : w.ownsRow B 39 2 v ls.length (pcells ls)) (hl : ls.length ≤ 1000000) (hB : B ≤ w.heap.size) :
    ∃ v' w', (Builtin.append_ #[36, 36] ty #[v, .slice (some ⟨w.heap.size, 0, none⟩) 1 1]).run Try.prog (w.alloc (.cells #[.int .i64 x, .int .i64 y] 39)) = .ok v' w' ∧ w'.ownsRow B 39 2 v' (ls ++ [(x, y)]).length (pcells (ls ++ [(x, y)])) ∧
      Kept (fun k => v.ownBlock = some k) w w' := by
  obtain ⟨i0, hi0, hz0, hz1, hz2⟩ := info_parts Try.infoPair
  obtain ⟨v', w', hr, h2, h3, _, h5⟩ := run_append_own_at (P := Try.prog) (w.alloc (.cells #[.int .i64 x, .int .i64 y] 39)) B 36 ty 39 i0 _ 2 16 Try.underlying36 hi0 hz0 hz1 hz2 rfl (by omega) v ls.length (pcells ls) (h.alloc _)
    ⟨w.heap.size, 0, none⟩ 1 1 [.int .i64 x, .int .i64 y] rfl (cell_new2 w _ _ _) (by simp [Value.oneCell']) (by unfold maxLen; omega) (by omega) (by simp; omega)
  exact ⟨v', w', hr, by rw [pcells_snoc, List.length_append]; exact h2, ((Kept.refl _ w).alloc _).grown h3 (fun _ h => h)⟩

section
variable {rho : Nat → Nat} {m : Nat}

/-- the smallest element of the group at a place -/
def rootAt (rho : Nat → Nat) (m g : Nat) : Nat := (roots rho m).getD g 0

theorem rootAt_mem {g : Nat} (hg : g < (roots rho m).length) : rho (rootAt rho m g) = rootAt rho m g ∧ rootAt rho m g < m := by
  have h : rootAt rho m g ∈ roots rho m := by unfold rootAt; simp [List.getD, hg]
  simp [roots] at h
  exact ⟨h.2, h.1⟩

theorem group_at {g : Nat} (hg : g < (roots rho m).length) : (groupsOf rho m).getD g [] = grp rho m (rootAt rho m g) := by
  unfold groupsOf rootAt grp
  simp [List.getD, hg]

theorem grp_mem {r i : Nat} (hi : i < (grp rho m r).length) : rho ((grp rho m r).getD i 0) = r ∧ (grp rho m r).getD i 0 < m := by
  have h : (grp rho m r).getD i 0 ∈ grp rho m r := by simp [List.getD, hi]
  obtain ⟨c, hc⟩ : ∃ c, c = (grp rho m r).getD i 0 := ⟨_, rfl⟩
  rw [← hc] at h ⊢
  unfold grp at h
  rw [List.mem_filter] at h
  exact ⟨by simpa using h.2, by simpa using h.1⟩

theorem grp_head (hroot : ∀ c, rho c ≤ c ∧ rho (rho c) = rho c) {r : Nat} (hr : rho r = r) : ∀ m, r < m → (grp rho m r).getD 0 0 = r := by
  have low : ∀ k, k ≤ r → grp rho k r = [] := by
    intro k hk
    unfold grp
    rw [List.filter_eq_nil_iff]
    intro c hc
    simp at hc ⊢
    have := (hroot c).1
    omega
  intro m
  induction m with
  | zero => intro h; omega
  | succ m ih =>
    intro h
    rw [grp_step]
    by_cases hm : r = m
    · subst hm
      rw [low r (Nat.le_refl _), if_pos hr]
      rfl
    · have h1 := ih (by omega)
      have h2 := grp_some hr (show r < m by omega)
      have e : (grp rho m r ++ (if rho m = r then [m] else [])).getD 0 0 = (grp rho m r).getD 0 0 := by
        simp only [List.getD]
        rw [List.getElem?_append_left h2]
      rw [e, h1]

theorem roots_apart {g g' : Nat} (hg : g < (roots rho m).length) (hg' : g' < (roots rho m).length) (hne : g ≠ g') : rootAt rho m g ≠ rootAt rho m g' := by
  have hp := List.pairwise_iff_getElem.1 (roots_nodup rho m)
  have e1 : rootAt rho m g = (roots rho m)[g] := by unfold rootAt; simp [List.getD, hg]
  have e2 : rootAt rho m g' = (roots rho m)[g'] := by unfold rootAt; simp [List.getD, hg']
  rw [e1, e2]
  rcases Nat.lt_or_gt_of_ne hne with h | h
  · exact hp g g' hg hg' h
  · exact fun e => hp g' g hg' hg h e.symm

end

end Go.Proofs.Ythpcaamfcmjnmaa
