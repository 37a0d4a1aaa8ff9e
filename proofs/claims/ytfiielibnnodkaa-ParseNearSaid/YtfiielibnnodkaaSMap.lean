/-
  A map of texts to numbers in memory: each text's place in a list.
  Conditions: none beyond each theorem's own.
-/
import Derived.Test.YtfiielibnnodkaaBase4
import Derived.Maps.OwnSet
namespace Go.Proofs.Ytfiielibnnodkaa
open Go.RowKit
set_option linter.unusedVariables false

theorem Try.strKeyed : Maps.Keyed Try.prog 9 := Maps.string_keyed Try.underlying9

/-- block b is a map that holds the place of each text of ns -/
def SMap (w : World) (b : Nat) (ns : List (List UInt8)) : Prop :=
  ∃ D : DataW Unit, w.ownsMap Try.prog 9 (plainElem Try.prog 3) b (Maps.size D) D ∧ Maps.size D = ns.length ∧
    (∀ s : List UInt8, Maps.has D (.string s) = decide (s ∈ ns)) ∧ (∀ s, s ∈ ns → D.atKey (.string s) (.lit (.int .i64 0)) = .lit (.int .i64 ((ns.idxOf s : Nat) : Int)))

theorem tightS {H : Type} {w : World} {P : Program} {k : TypeId} {R : Value → Option (DataW H × List MemPlace)} {b n : Nat} {D : DataW H} (h : w.ownsMap P k R b n D) : w.ownsMap P k R b (Maps.size D) D := by
  obtain ⟨es, clock, hb, F, _, rfl⟩ := h
  exact ⟨es, clock, hb, F, by simp [Maps.size, length_sorted], rfl⟩

section
variable {w w' : World} {b : Nat} {ns : List (List UInt8)}

theorem SMap.lt (h : SMap w b ns) : b < w.heap.size := let ⟨_, h, _⟩ := h; h.lt

theorem SMap.same (h : SMap w b ns) (hb : w'.heap[b]? = w.heap[b]?) : SMap w' b ns := by
  obtain ⟨D, ⟨es, clock, h1, h2⟩, h3⟩ := h
  exact ⟨D, ⟨es, clock, hb.trans h1, h2⟩, h3⟩

theorem SMap.new (w : World) : SMap (w.alloc (.map #[] 0)) w.heap.size [] :=
  ⟨.map [], World.ownsMap_made w _ _ _, rfl, fun c => by simp [Maps.has], fun s h => by simp at h⟩

theorem wf_natS (c : Nat) (h : c < 1000000) : (Lit.int .i64 (c : Int)).wf = true := by
  simp [Lit.wf, IntKind.min, IntKind.max, IntKind.signed, IntKind.bits]; omega

theorem key_str (s : List UInt8) (hs : s.length ≤ 1000000) : keyOf Try.prog 9 (.string (bs s)) = some (.string s) := by
  have := WideMaps.keyOf_string_mk (P := Try.prog) (k := 9) Try.underlying9 (s := bs s) (by rw [bs_size]; unfold maxLen; omega)
  rw [this, bs_data]

set_option maxRecDepth 100000 in
theorem SMap.look (h : SMap w b ns) {s : List UInt8} (hl : s.length ≤ 1000000) (hs : s ∈ ns) :
    (Instr.lookup 74 (.map (some b)) (.string (bs s)) true).run Try.prog w = .ok (.tuple #[.int .i64 ((ns.idxOf s : Nat) : Int), .bool true]) w := by
  obtain ⟨D, h1, h2, h3, h4⟩ := h
  have hat := h4 s hs
  obtain ⟨v, ps, hrun, hv⟩ := h1.look_ok (t := 74) Try.strKeyed Try.underlying74 (by kernel_rfl) (plainElem_int (a := 0) Try.underlying3 (by decide)) (key_str s hl)
  obtain ⟨a, rfl, hc2, _⟩ := plainElem_int_inv Try.underlying3 hv
  simp only [Prod.mk.injEq] at hc2
  rw [hat] at hc2
  obtain ⟨hc2, _⟩ := hc2
  injection hc2 with hc2
  injection hc2 with _ hc2
  rw [hrun, h3 s, hc2]
  simp [hs]

set_option maxRecDepth 100000 in
theorem SMap.miss (h : SMap w b ns) {s : List UInt8} (hl : s.length ≤ 1000000) (hs : s ∉ ns) :
    (Instr.lookup 74 (.map (some b)) (.string (bs s)) true).run Try.prog w = .ok (.tuple #[.int .i64 0, .bool false]) w := by
  obtain ⟨D, h1, h2, h3, h4⟩ := h
  obtain ⟨v, ps, hrun, hv⟩ := h1.look_ok (t := 74) Try.strKeyed Try.underlying74 (by kernel_rfl) (plainElem_int (a := 0) Try.underlying3 (by decide)) (key_str s hl)
  obtain ⟨a, rfl, hc2, _⟩ := plainElem_int_inv Try.underlying3 hv
  simp only [Prod.mk.injEq] at hc2
  have hh : Maps.has D (.string s) = false := by rw [h3 s]; simp [hs]
  rw [Maps.atKey_of_not_has hh] at hc2
  obtain ⟨hc2, _⟩ := hc2
  injection hc2 with hc2
  injection hc2 with _ hc2
  rw [hrun, hh, ← hc2]

theorem SMap.len (h : SMap w b ns) (ty : TypeId) : (Builtin.len_ #[74] ty #[.map (some b)]).run Try.prog w = .ok (.int .i64 (ns.length : Int)) w := by
  obtain ⟨D, h1, h2, h3, h4⟩ := h
  rw [← h2]
  exact h1.len Try.underlying74 ty

theorem SMap.store (h : SMap w b ns) {s : List UInt8} (hl : s.length ≤ 1000000) (hs : s ∉ ns) (hn : ns.length < 1000000) :
    ∃ w', (Instr.mapUpdate 74 (.map (some b)) (.string (bs s)) (.int .i64 (ns.length : Int))).run Try.prog w = .ok () w' ∧ SMap w' b (ns ++ [s]) ∧ w.grownBy w' (some b) := by
  obtain ⟨D, h1, h2, h3, h4⟩ := h
  obtain ⟨w', hrun, ho, hg⟩ := h1.update (t := 74) Try.strKeyed Try.underlying74 (by rw [h2]; unfold maxLen; omega) (key_str s hl) (plainElem_int Try.underlying3 (wf_natS ns.length hn))
  refine ⟨w', hrun, ⟨D.put (.string s) (.lit (.int .i64 (ns.length : Int))), tightS ho, ?_, ?_, ?_⟩, hg⟩
  · rw [Maps.size_put (h1.tidy Try.strKeyed), h3 s, h2]
    simp [hs]
  · intro a
    by_cases ha : a = s
    · subst ha
      rw [Maps.has_put_same h1.isMap (by trivial)]
      simp
    · rw [Maps.has_put_other (by simpa using ha), h3 a]
      simp [ha]
  · intro a ham
    by_cases hac : a = s
    · subst hac
      rw [Maps.atKey_put_same h1.isMap (by trivial) _ _, List.idxOf_append, if_neg hs]
      simp
    · rw [Maps.atKey_put_other (by simpa using hac)]
      have ham : a ∈ ns := by simpa [hac] using ham
      rw [h4 a ham, List.idxOf_append, if_pos ham]
end

end Go.Proofs.Ytfiielibnnodkaa
