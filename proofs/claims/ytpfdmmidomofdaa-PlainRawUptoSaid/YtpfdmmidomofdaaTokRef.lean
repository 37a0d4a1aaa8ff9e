/-
  Rows of the document's own tokens that a call has made: a token put at the end; the token at a place. And small facts on bytes.
  Conditions: none beyond each theorem's own.
-/
import Derived.Test.YtpfdmmidomofdaaBase4
namespace Go.Proofs.Ytpfdmmidomofdaa
open Go.RowKit
set_option linter.unusedVariables false

theorem new4 {W w' : World} {g : Nat} {x0 x1 x2 x3 : Value} {t : TypeId} (hg : W.heap[g]? = some (.cells #[x0, x1, x2, x3] t)) (hb : Below W.heap.size W w') :
    (w'.cell? ⟨g, 0, none⟩ = some x0 ∧ w'.cell? ⟨g, 1, none⟩ = some x1 ∧ w'.cell? ⟨g, 2, none⟩ = some x2 ∧ w'.cell? ⟨g, 3, none⟩ = some x3) ∧
    (w'.frozen? ⟨g, 0, none⟩ = false ∧ w'.frozen? ⟨g, 1, none⟩ = false ∧ w'.frozen? ⟨g, 2, none⟩ = false ∧ w'.frozen? ⟨g, 3, none⟩ = false) ∧ g < w'.heap.size := by
  have hlt : g < W.heap.size := (Array.getElem?_eq_some_iff.1 hg).1
  have h2 := (hb.block g hlt).trans hg
  have hc := fun i => cell_of_row w' g i _ _ (0, 0) h2
  refine ⟨⟨hc 0, hc 1, hc 2, hc 3⟩, ?_, by have := hb.size; omega⟩
  refine ⟨?_, ?_, ?_, ?_⟩ <;> simp [World.frozen?, h2]

theorem valOf_take_le (d : List UInt8) (k : Nat) : valOf (d.take k) ≤ valOf d := by
  have h := valOf_append (d.take k) (d.drop k)
  rw [List.take_append_drop] at h
  have h1 : 1 ≤ 10 ^ (d.drop k).length := Nat.pow_pos (by omega)
  have h2 : valOf (d.take k) * 1 ≤ valOf (d.take k) * 10 ^ (d.drop k).length := Nat.mul_le_mul_left _ h1
  omega

theorem zi_eq {x : UInt8} {m : Nat} (h : zi x = (m : Int)) : x.toNat = m := by unfold zi at h; omega

theorem blank_of {x : UInt8} {m : Nat} (h : zi x = (m : Int)) (hm : m = 32 ∨ m = 9 ∨ m = 13 ∨ m = 10) : isBlank x = true := by
  have := zi_eq h
  unfold isBlank
  simp
  omega

section
variable {w w' : World} {v : Value}
theorem own_moves {T : TypeId} {B m : Nat} {xs : List Value} (h : w.ownsRow B T 4 v m xs) (hb : Below w.heap.size w w') : w'.ownsRow B T 4 v m xs :=
  ownS (S := fun _ => False) h (Kept.of_below hb) (fun _ _ e => e)

end

theorem bs_toList (l : List UInt8) : (bs l).toList = l := by rw [Lib.toList_data, bs_data]

/-- a token's cells -/
def tokL (t : Tok) : List Value := [.int .u8 (t.kind : Int), .string (bs t.text), .int .i64 (t.num : Int), .int .i64 (t.at_ : Int)]

/-- the cells of a list of tokens -/
def toksL (ts : List Tok) : List Value := ts.flatMap tokL

theorem toksL_snoc (ts : List Tok) (t : Tok) : toksL (ts ++ [t]) = toksL ts ++ tokL t := by simp [toksL]

theorem toksL_at (ts : List Tok) : ∀ (i j : Nat) (t : Tok), ts[i]? = some t → j < 4 → (toksL ts)[i * 4 + j]? = (tokL t)[j]? := by
  induction ts with
  | nil => intro i j t h; simp at h
  | cons p l ih =>
    intro i j t hi hj
    have e : toksL (p :: l) = tokL p ++ toksL l := by simp [toksL]
    have el : (tokL p).length = 4 := rfl
    rw [e]
    cases i with
    | zero =>
      simp at hi
      subst hi
      rw [Nat.zero_mul, Nat.zero_add, List.getElem?_append_left (by omega)]
    | succ i =>
      rw [List.getElem?_append_right (by omega), el, show (i + 1) * 4 + j - 4 = i * 4 + j by omega]
      exact ih i j t (by simpa using hi) hj

theorem cell_new4 (w : World) (x0 x1 x2 x3 : Value) (t : TypeId) : ∀ j x, [x0, x1, x2, x3][j]? = some x → (w.alloc (.cells #[x0, x1, x2, x3] t)).cell? ((⟨w.heap.size, 0, none⟩ : Addr).add j) = some x := by
  intro j x hj
  have hb := heap_alloc_new w (.cells #[x0, x1, x2, x3] t)
  have e : (⟨w.heap.size, 0, none⟩ : Addr).add j = ⟨w.heap.size, j, none⟩ := by simp [Addr.add]; omega
  rw [e, cell_of_row _ _ j _ _ (0, 0) hb, ← hj]
  simp

theorem Try.info_rtok : (Try.prog.info? 118).map (fun i => (i.zero, i.size, i.bytes)) = some (some (.agg #[.int .u8 0, .string { data := #[] }, .int .i64 0, .int .i64 0]), 4, 40) := by kernel_rfl

/-- 'append(l, t)' -/
theorem run_push_rtok {B : Nat} {v : Value} {ts : List Tok} (ty : TypeId) (t : Tok) {w : World} (h : w.ownsRow B 118 4 v ts.length (toksL ts)) (hl : ts.length ≤ 2000000) (hB : B ≤ w.heap.size) :
    ∃ v' w', (Builtin.append_ #[114, 114] ty #[v, .slice (some ⟨w.heap.size, 0, none⟩) 1 1]).run Try.prog (w.alloc (.cells #[.int .u8 (t.kind : Int), .string (bs t.text), .int .i64 (t.num : Int), .int .i64 (t.at_ : Int)] 118)) = .ok v' w' ∧ w'.ownsRow B 118 4 v' (ts ++ [t]).length (toksL (ts ++ [t])) ∧
      Kept (fun k => v.ownBlock = some k) w w' := by
  obtain ⟨i0, hi0, hz0, hz1, hz2⟩ := info_parts Try.info_rtok
  obtain ⟨v', w', hr, h2, h3, _, h5⟩ := run_append_own_at (P := Try.prog) (w.alloc (.cells #[.int .u8 (t.kind : Int), .string (bs t.text), .int .i64 (t.num : Int), .int .i64 (t.at_ : Int)] 118)) B 114 ty 118 i0 _ 4 40 Try.underlying114 hi0 hz0 hz1 hz2 rfl (by omega) v ts.length (toksL ts) (h.alloc _)
    ⟨w.heap.size, 0, none⟩ 1 1 (tokL t) rfl (cell_new4 w _ _ _ _ _) (by simp [tokL, Value.oneCell']) (by unfold maxLen; omega) (by omega) (by simp; omega)
  exact ⟨v', w', hr, by rw [toksL_snoc, List.length_append]; exact h2, ((Kept.refl _ w).alloc _).grown h3 (fun _ h => h)⟩

/-- the token at a place -/
theorem own_rtok {B : Nat} {w : World} {v : Value} {ts : List Tok} (h : w.ownsRow B 118 4 v ts.length (toksL ts)) : ∃ r cap, (0 < ts.length → v = .slice (some ⟨r, 0, none⟩) ts.length cap) ∧ (0 < ts.length → B ≤ r ∧ r < w.heap.size) ∧ ∀ i t, ts[i]? = some t →
      w.cell? ⟨r, i * 4, none⟩ = some (.int .u8 (t.kind : Int)) ∧ w.cell? ⟨r, i * 4 + 1, none⟩ = some (.string (bs t.text)) ∧ w.cell? ⟨r, i * 4 + 2, none⟩ = some (.int .i64 (t.num : Int)) ∧ w.cell? ⟨r, i * 4 + 3, none⟩ = some (.int .i64 (t.at_ : Int)) := by
  rcases h.2 with ⟨_, h0⟩ | ⟨r, cap, cur, hv, hB, hb, _⟩
  · refine ⟨0, 0, fun h => by omega, fun h => by omega, fun i t hi => ?_⟩
    have := (List.getElem?_eq_some_iff.1 hi).1
    omega
  · have h2 := h
    rw [hv] at h2
    refine ⟨r, cap, fun _ => hv, fun _ => ⟨hB, (Array.getElem?_eq_some_iff.1 hb).1⟩, fun i t hi => ?_⟩
    have hlt := (List.getElem?_eq_some_iff.1 hi).1
    have hl := h.1
    have key : ∀ j, j < 4 → w.cell? ⟨r, i * 4 + j, none⟩ = (tokL t)[j]? := fun j hj => by
      rw [h2.cellAt (i * 4 + j) (by omega)]
      exact toksL_at ts i j t hi hj
    exact ⟨key 0 (by omega), key 1 (by omega), key 2 (by omega), key 3 (by omega)⟩

end Go.Proofs.Ytpfdmmidomofdaa
