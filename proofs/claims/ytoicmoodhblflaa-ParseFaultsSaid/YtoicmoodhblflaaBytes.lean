/-
  A slice of bytes: what is known of its cells; cut at either end; as a string; of a string.
  Conditions: none beyond each theorem's own.
-/
import Derived.Test.YtoicmoodhblflaaLexMore
import Derived.Test.YtoicmoodhblflaaKept
import Derived.Laws.IdiomStrings
import Derived.Lib.SlBytesConst
import Derived.Laws.RangeAny
import Derived.Laws.Runes
import Derived.Lib.Walk
namespace Go.Proofs.Ytoicmoodhblflaa
open Go.RowKit
set_option linter.unusedVariables false

theorem below_drew {B : Nat} {a w : World} (h : Below B a w) : Below B a w.drew := ⟨h.os, h.tape, h.output, h.size, h.block⟩
theorem below_drews {B : Nat} {a w : World} (h : Below B a w) (n : Nat) : Below B a (w.drewN n) := ⟨h.os, h.tape, h.output, h.size, h.block⟩

/-- bytes as a string -/
def bs (l : List UInt8) : ByteArray := ⟨l.toArray⟩

theorem bs_size (l : List UInt8) : (bs l).size = l.length := by simp [bs, ByteArray.size]
theorem bs_data (l : List UInt8) : (bs l).data.toList = l := by simp [bs]

/-- the slice with the address A, of n bytes, reads l -/
structure BytesAt (w : World) (A : Option Addr) (n : Nat) (l : List UInt8) : Prop where
  len : l.length = n
  cells : 0 < n → ∃ b off, A = some ⟨b, off, none⟩ ∧ b < w.heap.size ∧ ∀ i x, l[i]? = some x → w.cell? ⟨b, off + i, none⟩ = some (.int .u8 (zi x))

section
variable {w w' : World} {A : Option Addr} {n : Nat} {l : List UInt8}

theorem BytesAt.keep (h : BytesAt w A n l) (hs : w.heap.size ≤ w'.heap.size) (hk : ∀ k, k < w.heap.size → w'.heap[k]? = w.heap[k]?) : BytesAt w' A n l :=
  ⟨h.len, fun hn => by
    obtain ⟨b, off, e, hb, hc⟩ := h.cells hn
    exact ⟨b, off, e, by omega, fun i x hx => (World.cell?_of_block (w := w) (a := ⟨b, off + i, none⟩) (hk b hb)).trans (hc i x hx)⟩⟩
theorem BytesAt.below (h : BytesAt w A n l) (hb : Below w.heap.size w w') : BytesAt w' A n l := h.keep hb.size hb.block
theorem BytesAt.drewN (h : BytesAt w A n l) (k : Nat) : BytesAt (w.drewN k) A n l := ⟨h.len, h.cells⟩

/-- the byte at a place -/
theorem BytesAt.at_ (h : BytesAt w A n l) {k : Nat} (hk : k < n) : ∃ b off x, A = some ⟨b, off, none⟩ ∧ b < w.heap.size ∧ l[k]? = some x ∧ l.drop k = x :: l.drop (k + 1) ∧ w.cell? ⟨b, off + k, none⟩ = some (.int .u8 (zi x)) := by
  obtain ⟨b, off, e, hb, hc⟩ := h.cells (by omega)
  have hl : k < l.length := by rw [h.len]; exact hk
  exact ⟨b, off, l[k], e, hb, List.getElem?_eq_getElem hl, List.drop_eq_getElem_cons hl, hc k _ (List.getElem?_eq_getElem hl)⟩

/-- cut at its beginning -/
theorem BytesAt.drop {b off : Nat} (h : BytesAt w (some ⟨b, off, none⟩) n l) (k : Nat) (hk : k ≤ n) : BytesAt w (some ⟨b, off + k, none⟩) (n - k) (l.drop k) :=
  ⟨by rw [List.length_drop, h.len], fun hn => by
    obtain ⟨b', off', e, hb, hc⟩ := h.cells (by omega)
    injection e with e
    injection e with e1 e2
    subst e1; subst e2
    exact ⟨_, _, rfl, hb, fun i x hx => by
      rw [List.getElem?_drop] at hx
      have := hc (k + i) x hx
      rwa [← Nat.add_assoc] at this⟩⟩

/-- cut at its end -/
theorem BytesAt.take (h : BytesAt w A n l) (k : Nat) (hk : k ≤ n) : BytesAt w A k (l.take k) :=
  ⟨by rw [List.length_take, h.len]; omega, fun hn => by
    obtain ⟨b, off, e, hb, hc⟩ := h.cells (by omega)
    exact ⟨b, off, e, hb, fun i x hx => by
      rw [List.getElem?_take] at hx
      split at hx
      · exact hc i x hx
      · cases hx⟩⟩

/-- as the library's laws want it -/
theorem BytesAt.nums {b off : Nat} (h : BytesAt w (some ⟨b, off, none⟩) n l) : (l.map zi).length = n ∧ (∀ i, i < n → w.cell? ⟨b, off + i, none⟩ = some (.int .u8 ((l.map zi).getD i 0))) ∧ Lib.bytesOf (l.map zi) = l := by
  refine ⟨by simp [h.len], ?_, ?_⟩
  · intro i hi
    obtain ⟨b', off', e, hb, hc⟩ := h.cells (by omega)
    injection e with e
    injection e with e1 e2
    subst e1; subst e2
    have hl : i < l.length := by rw [h.len]; exact hi
    rw [hc i _ (List.getElem?_eq_getElem hl)]
    simp [List.getD, hl]
  · unfold Lib.bytesOf
    rw [List.map_map]
    conv => rhs; rw [← List.map_id l]
    apply List.map_congr_left
    intro x _
    simp [zi]

/-- 'string(p)' -/
theorem BytesAt.str (h : BytesAt w A n l) (c : Nat) : (convert 32 9 (.slice A n c)).run Try.prog w = .ok (.string (bs l)) w := by
  rcases Nat.eq_zero_or_pos n with h0 | h0
  · subst h0
    have hl : l = [] := List.eq_nil_of_length_eq_zero h.len
    subst hl
    cases A with
    | none => exact run_convert_bytes_nil w 32 5 Try.underlying32 Try.underlying5 0 c 9 Try.underlying9
    | some a => exact run_convert_bytes_back (P := Try.prog) w 32 9 5 a c [] Try.underlying32 Try.underlying5 Try.underlying9 (fun j hj => by simp at hj)
  · obtain ⟨b, off, rfl, hb, hc⟩ := h.cells h0
    have := run_convert_bytes_back (P := Try.prog) w 32 9 5 ⟨b, off, none⟩ c l Try.underlying32 Try.underlying5 Try.underlying9 (fun j hj => by
      have e : (⟨b, off, none⟩ : Addr).add j = ⟨b, off + j, none⟩ := by unfold Addr.add; split <;> simp_all
      rw [e, hc j _ (List.getElem?_eq_getElem hj)]
      rfl)
    rw [h.len] at this
    exact this

end

theorem cell_marked (w : World) (C : Array Value) (e : TypeId) (f : Nat × Nat) (i : Nat) : (w.alloc (.cells C e f)).cell? ⟨w.heap.size, i, none⟩ = C[i]? := by
  have hb := heap_alloc_new w (.cells C e f)
  exact cell_of_row _ _ i _ _ f hb

/-- '[]byte(s)' -/
theorem run_bytes_of (w : World) (s : ByteArray) : ∃ b c w', (convert 9 32 (.string s)).run Try.prog w = .ok (.slice (some ⟨b, 0, none⟩) s.size c) w' ∧ s.size ≤ c ∧ BytesAt w' (some ⟨b, 0, none⟩) s.size s.data.toList ∧ Below w.heap.size w w' := by
  refine ⟨_, _, _, run_bytes_of_string (P := Try.prog) w 9 32 5 s Try.underlying9 Try.underlying32 Try.underlying5, grownCap_ge _ _ _ _, ⟨by simp, fun hn => ⟨_, _, rfl, by simp [World.alloc], ?_⟩⟩, ?_⟩
  · intro i x hx
    rw [Nat.zero_add]
    refine (cell_marked w.drew _ _ _ i).trans ?_
    have hi : i < s.size := by have := (List.getElem?_eq_some_iff.1 hx).1; simpa using this
    have hx2 : s.data[i]? = some x := by simpa using hx
    unfold bytesRow
    rw [Array.getElem?_append_left (by simpa using hi), Array.getElem?_map, hx2]
    rfl
  · exact (below_drew (Below.refl _ w)).alloc (Nat.le_refl _) _

end Go.Proofs.Ytoicmoodhblflaa
