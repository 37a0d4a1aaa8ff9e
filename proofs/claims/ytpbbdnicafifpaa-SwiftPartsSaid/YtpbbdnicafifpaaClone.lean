/-
  What slices.Clone of arcs, of places, of transitions comes to.
  Conditions: none beyond each theorem's own.
-/
import Derived.Test.YtpbbdnicafifpaaNearIn
import Derived.Lib.SliceRun
namespace Go.Proofs.Ytpbbdnicafifpaa
open Go.RowKit
set_option linter.unusedVariables false

theorem RowAt.nil_len {w : World} {size n c m : Nat} {xs : List Value} (h : RowAt size w (.slice none n c) m xs) : n = 0 ∧ m = 0 := by
  obtain ⟨hx, a', cap, e, h1, h2, h3⟩ := h
  injection e with e1 e2 e3
  rcases h3 with h0 | ⟨b, off, e', _⟩
  · exact ⟨e2.trans h0, h0⟩
  · rw [← e1] at e'; cases e'

theorem pls_one (l : List Pl) : ∀ u ∈ l.flatMap plL, u.oneCell' = true := by
  intro u hu
  rw [List.mem_flatMap] at hu
  obtain ⟨a, _, ha⟩ := hu
  simp only [plL, List.mem_cons, List.not_mem_nil, or_false] at ha
  rcases ha with rfl | rfl <;> rfl
theorem trs_one {w : World} {v : Value} {l : List (Tr × Value × Value × Value)} (h : TrsAt w v l) : ∀ u ∈ l.flatMap trL, u.oneCell' = true := by
  intro u hu
  rw [List.mem_flatMap] at hu
  obtain ⟨a, ha, hu⟩ := hu
  obtain ⟨g1, g2, g3⟩ := h.2 a ha
  obtain ⟨_, _, e1⟩ := RowAt.len g1
  obtain ⟨_, _, e2⟩ := RowAt.len g2
  obtain ⟨_, _, e3⟩ := RowAt.len g3
  simp only [trL, List.mem_cons, List.not_mem_nil, or_false] at hu
  rcases hu with rfl | rfl | rfl | rfl | rfl | rfl
  · rfl
  · rfl
  · rfl
  · rw [e1]; rfl
  · rw [e2]; rfl
  · rw [e3]; rfl

/-- 'append(S([]E{}), x...)' -/
theorem run_append_new {w : World} {x : Value} {m size bytes : Nat} {xs : List Value} (t ty e : TypeId) (i : TypeInfo) (z : Value) (ht : Try.prog.underlying t = some (.slice e)) (hi : Try.prog.info? e = some i) (hz : i.zero = some z) (hsz : i.size = size) (hby : i.bytes = bytes) (hzs : z.cells.size = size) (hs0 : 0 < size) (hx : RowAt size w x m xs) (hone : ∀ u ∈ xs, u.oneCell' = true) (hb : m * bytes ≤ 140737488355328) (hm : m ≤ maxLen) :
    ∃ a n c w', (Builtin.append_ #[t, t] ty #[.slice (some ⟨w.heap.size, 0, none⟩) 0 0, x]).run Try.prog (w.alloc (.cells #[] e)) = .ok (.slice a n c) w' ∧ w'.ownsRow w.heap.size e size (.slice a n c) m xs ∧ Below w.heap.size w w' := by
  obtain ⟨v', w', hr, h2, h3⟩ := run_append_own_src (P := Try.prog) (w.alloc (.cells #[] e)) w.heap.size t t ty e i z size bytes ht hi hz hsz hby hzs hs0 (.slice (some ⟨w.heap.size, 0, none⟩) 0 0) 0 [] (by have := World.ownsRow_made w (e := e) (size := size) #[] 0 (Nat.le_refl _) (Nat.zero_le _) (by simp); simpa using this) x m xs (RowAt.src (hx.alloc _) ht hone) (by simpa using hm) (by simpa using hb) (by simp)
  obtain ⟨a, n, c, rfl⟩ := own_form3 h2
  refine ⟨a, n, c, w', hr, by simpa using h2, ?_⟩
  exact ((Below.refl _ w).alloc (Nat.le_refl _) _).grown h3 (by simp) (by intro k hk; simp [Value.ownBlock] at hk; omega)

section
variable {w : World} {a : Option Addr} {n c : Nat}

set_option maxRecDepth 100000 in
set_option maxHeartbeats 1000000 in
theorem cloneArcs_any {l : List (Int × Int)} (h : ArcsAt w (.slice a n c) l) (hl : l.length ≤ 1000000) :
    Calls Try.prog 83 #[.slice a n c] w fun e w' => ∃ a' n' c', e = .returned (.slice a' n' c') ∧ w'.ownsRow w.heap.size 76 2 (.slice a' n' c') l.length (l.flatMap arcL) ∧ Below w.heap.size w w' := by
  have q0 : ∀ (w : World) (a : Option Addr) (n c n' c' : Nat), (binOp .eql 77 (.slice a n c) (.slice none n' c')).run Try.prog w = .ok (.bool a.isNone) w := fun w a n c n' c' => Lib.run_eql_slice_nil w _ _ a n c n' c' Try.underlying77
  have hR : RowAt 2 w (.slice a n c) l.length (l.flatMap arcL) := h
  have hone : ∀ u ∈ l.flatMap arcL, u.oneCell' = true := arcs_one l
  cases a with
  | none =>
    obtain ⟨rfl, hl0⟩ := hR.nil_len
    have hl1 : l = [] := List.eq_nil_of_length_eq_zero hl0
    subst hl1
    clear h hR hone hl hl0
    go_enter Try.func83, Try.ntmps83
    go_wp2
    go_ret
    exact ⟨_, _, _, rfl, ownNil _ _ _ _, Below.refl _ _⟩
  | some p =>
    obtain ⟨i0, hi0, hz0, hz1, hz2⟩ := info_parts Try.infoArc
    obtain ⟨a', n', c', w', hr, ho, hb⟩ := run_append_new 77 77 76 i0 _ Try.underlying77 hi0 hz0 hz1 hz2 rfl (by omega) hR hone (by omega) (by unfold maxLen; omega)
    have HO := Lib.hid ho
    have HB := Lib.hid hb
    clear h hR hone hl hi0 hz0 hz1 hz2 ho hb
    go_enter Try.func83, Try.ntmps83
    go_wp2_with (at_builtin; refine wpList_append_eq rfl (.tmp 5) (.tmp 6) 77 rfl rfl rfl hr ?_)
    clear hr
    go_wp2
    go_ret
    exact ⟨_, _, _, rfl, HO.out, HB.out⟩

set_option maxRecDepth 100000 in
set_option maxHeartbeats 1000000 in
theorem clonePls_any {l : List Pl} (h : PlsAt w (.slice a n c) l) (hl : l.length ≤ 1000000) :
    Calls Try.prog 81 #[.slice a n c] w fun e w' => ∃ a' n' c', e = .returned (.slice a' n' c') ∧ w'.ownsRow w.heap.size 57 2 (.slice a' n' c') l.length (l.flatMap plL) ∧ Below w.heap.size w w' := by
  have q0 : ∀ (w : World) (a : Option Addr) (n c n' c' : Nat), (binOp .eql 28 (.slice a n c) (.slice none n' c')).run Try.prog w = .ok (.bool a.isNone) w := fun w a n c n' c' => Lib.run_eql_slice_nil w _ _ a n c n' c' Try.underlying28
  have hR : RowAt 2 w (.slice a n c) l.length (l.flatMap plL) := h
  have hone : ∀ u ∈ l.flatMap plL, u.oneCell' = true := pls_one l
  cases a with
  | none =>
    obtain ⟨rfl, hl0⟩ := hR.nil_len
    have hl1 : l = [] := List.eq_nil_of_length_eq_zero hl0
    subst hl1
    clear h hR hone hl hl0
    go_enter Try.func81, Try.ntmps81
    go_wp2
    go_ret
    exact ⟨_, _, _, rfl, ownNil _ _ _ _, Below.refl _ _⟩
  | some p =>
    obtain ⟨i0, hi0, hz0, hz1, hz2⟩ := info_parts Try.infoPlace
    obtain ⟨a', n', c', w', hr, ho, hb⟩ := run_append_new 28 28 57 i0 _ Try.underlying28 hi0 hz0 hz1 hz2 rfl (by omega) hR hone (by omega) (by unfold maxLen; omega)
    have HO := Lib.hid ho
    have HB := Lib.hid hb
    clear h hR hone hl hi0 hz0 hz1 hz2 ho hb
    go_enter Try.func81, Try.ntmps81
    go_wp2_with (at_builtin; refine wpList_append_eq rfl (.tmp 5) (.tmp 6) 28 rfl rfl rfl hr ?_)
    clear hr
    go_wp2
    go_ret
    exact ⟨_, _, _, rfl, HO.out, HB.out⟩

set_option maxRecDepth 100000 in
set_option maxHeartbeats 1000000 in
theorem cloneTrs_any {l : List (Tr × Value × Value × Value)} (h : TrsAt w (.slice a n c) l) (hl : l.length ≤ 1000000) :
    Calls Try.prog 82 #[.slice a n c] w fun e w' => ∃ a' n' c', e = .returned (.slice a' n' c') ∧ w'.ownsRow w.heap.size 79 6 (.slice a' n' c') l.length (l.flatMap trL) ∧ Below w.heap.size w w' := by
  have q0 : ∀ (w : World) (a : Option Addr) (n c n' c' : Nat), (binOp .eql 29 (.slice a n c) (.slice none n' c')).run Try.prog w = .ok (.bool a.isNone) w := fun w a n c n' c' => Lib.run_eql_slice_nil w _ _ a n c n' c' Try.underlying29
  have hR : RowAt 6 w (.slice a n c) l.length (l.flatMap trL) := h.1
  have hone : ∀ u ∈ l.flatMap trL, u.oneCell' = true := trs_one h
  cases a with
  | none =>
    obtain ⟨rfl, hl0⟩ := hR.nil_len
    have hl1 : l = [] := List.eq_nil_of_length_eq_zero hl0
    subst hl1
    clear h hR hone hl hl0
    go_enter Try.func82, Try.ntmps82
    go_wp2
    go_ret
    exact ⟨_, _, _, rfl, ownNil _ _ _ _, Below.refl _ _⟩
  | some p =>
    obtain ⟨i0, hi0, hz0, hz1, hz2⟩ := info_parts Try.infoTrans
    obtain ⟨a', n', c', w', hr, ho, hb⟩ := run_append_new 29 29 79 i0 _ Try.underlying29 hi0 hz0 hz1 hz2 rfl (by omega) hR hone (by omega) (by unfold maxLen; omega)
    have HO := Lib.hid ho
    have HB := Lib.hid hb
    clear h hR hone hl hi0 hz0 hz1 hz2 ho hb
    go_enter Try.func82, Try.ntmps82
    go_wp2_with (at_builtin; refine wpList_append_eq rfl (.tmp 5) (.tmp 6) 29 rfl rfl rfl hr ?_)
    clear hr
    go_wp2
    go_ret
    exact ⟨_, _, _, rfl, HO.out, HB.out⟩
end
end Go.Proofs.Ytpbbdnicafifpaa
