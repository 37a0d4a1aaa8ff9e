/-
  What New of the engine has at hand: truths that can be read; a row of slices that is made; a copy of truths; the copy of the net and the first tokens, in either order.
  Conditions: none beyond each theorem's own.
-/
import Derived.Test.YtpbbdnicafifpaaEgR
import Derived.Test.YtpbbdnicafifpaaCopyW
import Derived.Test.YtpbbdnicafifpaaRep
namespace Go.Proofs.Ytpbbdnicafifpaa
open Go.RowKit
set_option linter.unusedVariables false

/-- a slice of truths that can be read -/
def BoolsAt (w : World) (v : Value) (l : List Bool) : Prop := RowAt 1 w v l.length (l.flatMap boolL)
theorem BoolsAt.below {w w' : World} {v : Value} {l : List Bool} (h : BoolsAt w v l) (hb : Below w.heap.size w w') : BoolsAt w' v l := RowAt.below h hb
theorem BoolsAt.at_ {w : World} {l : List Bool} {a : Option Addr} {n cap : Nat} (h : BoolsAt w (.slice a n cap) l) {i : Nat} {x : Bool} (hi : l[i]? = some x) :
    ∃ b off, a = some ⟨b, off, none⟩ ∧ b < w.heap.size ∧ w.cell? ⟨b, off + i, none⟩ = some (.bool x) := by
  obtain ⟨b, off, e, hb, hc⟩ := RowAt.elem boolL_len h hi
  exact ⟨b, off, e, hb, by have := hc 0 _ rfl; simpa using this⟩
theorem flat_boolL (l : List Bool) : l.flatMap boolL = l.map Value.bool := by
  induction l with
  | nil => rfl
  | cons x l ih => rw [List.flatMap_cons, ih]; rfl
theorem BoolsAt.of_own {B n : Nat} {w : World} {v : Value} (h : w.ownsRow B 4 1 v n (List.replicate n (.bool true))) : BoolsAt w v (List.replicate n true) := by
  have := RowAt.of_own h
  unfold BoolsAt
  rw [flat_boolL, List.map_replicate, List.length_replicate]
  exact this

theorem flat_slL (l : List Value) : l.flatMap slL = l := by
  induction l with
  | nil => rfl
  | cons x l ih => rw [List.flatMap_cons, ih]; rfl
theorem Try.infoSl : (Try.prog.info? 39).map (fun i => (i.zero, i.size, i.bytes)) = some (some (.slice none 0 0), 1, 24) := by kernel_rfl
/-- 'make([][]int, r)' -/
theorem run_make_sls (r : Nat) (hr : r ≤ 1000000) (w : World) :
    ∃ w', (Instr.makeSlice 33 (.int .i64 (r : Int)) (.int .i64 (r : Int))).run Try.prog w = .ok (.slice (some ⟨w.heap.size, 0, none⟩) r r) w' ∧ (slsRow (.slice (some ⟨w.heap.size, 0, none⟩) r r) ((List.replicate r (Value.slice none 0 0, ([] : List Int))).map (·.1))).own w.heap.size w' ∧ Below w.heap.size w w' := by
  obtain ⟨i0, hi0, hz0, hz1, hz2⟩ := info_parts Try.infoSl
  obtain ⟨w', h1, h2, h3⟩ := run_make_full (P := Try.prog) w w.heap.size 33 39 i0 _ 1 Try.underlying33 hi0 hz0 hz1 .i64 .i64 r (by rw [hz2]; omega) (by unfold maxLen; omega) (Nat.le_refl _)
  refine ⟨w', h1, ?_, ⟨h3.os, h3.tape, h3.output, h3.size, fun k hk => h3.block k hk (by simp)⟩⟩
  have e : ((List.replicate r (Value.slice none 0 0, ([] : List Int))).map (·.1)).flatMap slL = (madeCells (Value.slice none 0 0).cells (r * 1)).toList := by
    have : (Value.slice none 0 0).cells = #[.slice none 0 0] := rfl
    rw [this, toList_madeCells_one, Nat.mul_one, List.map_replicate, flat_slL]
  unfold slsRow Row.own
  simp only
  rw [e, List.length_map, List.length_replicate]
  exact h2

theorem Blk.row {B g n : Nat} {w : World} {l : List Bool} (h : Blk w g (l.map Value.bool)) (hB : B ≤ g) (hn : l.length = n) (hm : n ≤ 1000000) : (boolRow (.slice (some ⟨g, 0, none⟩) n n) l).own B w := by
  have := Blk.own (B := B) (n := n) h hB (by simpa using hn) hm
  unfold boolRow Row.own
  simp only
  rw [flat_boolL, hn]
  exact this
theorem Blk.of_row {B g n : Nat} {w : World} {l : List Bool} (h : (boolRow (.slice (some ⟨g, 0, none⟩) n n) l).own B w) (hn : l.length = n) : Blk w g (l.map Value.bool) := by
  unfold boolRow Row.own at h
  simp only at h
  rw [flat_boolL, hn] at h
  exact Blk.of_own h

/-- which places are others': as far as told -/
def awayOf (P : Nat) (la : List Bool) : List Bool := la.take P ++ List.replicate (P - la.length) false
theorem awayOf_len (P : Nat) (la : List Bool) : (awayOf P la).length = P := by simp [awayOf]; omega

theorem copy_away {w : World} {g P na ca : Nat} {aa : Option Addr} {la : List Bool} (hb : Blk w g ((List.replicate P false).map Value.bool)) (hna : na = la.length) (hA : BoolsAt w (.slice aa na ca) la) :
    ∃ w', (Builtin.copy_ #[65, 65] 3 #[.slice (some ⟨g, 0, none⟩) P P, .slice aa na ca]).run Try.prog w = .ok (.int .i64 (Nat.min na P : Nat)) w' ∧ Blk w' g ((awayOf P la).map Value.bool) ∧ Kept (fun k => k = g) w w' := by
  have hlen : ((la.take P).map Value.bool).length = Nat.min na P := by rw [List.length_map, List.length_take, hna, Nat.min_comm]
  have hsp : splice ((List.replicate P false).map Value.bool) 0 ((la.take P).map Value.bool) = (awayOf P la).map Value.bool := by
    unfold splice awayOf
    rw [List.take_zero, List.nil_append, Nat.zero_add, List.map_append, List.map_replicate, List.map_replicate, List.drop_replicate, hlen, hna]
    congr 2
    have : Nat.min la.length P = min la.length P := rfl
    omega
  by_cases h0 : Nat.min na P = 0
  · have hrun := run_copy_none (P := Try.prog) w 65 65 3 4 (some ⟨g, 0, none⟩) aa P P na ca Try.underlying65 Try.sizeBo h0
    refine ⟨w, by rw [hrun, h0]; rfl, ?_, Kept.refl _ _⟩
    have e : (la.take P).map Value.bool = [] := List.eq_nil_of_length_eq_zero (by rw [hlen, h0])
    rw [e] at hsp
    rw [← hsp]
    simpa [splice] using hb
  · have hpos : 0 < na ∧ 0 < P := by
      have : Nat.min na P = min na P := rfl
      omega
    obtain ⟨x, hx⟩ := at_lt (l := la) (k := 0) (by omega)
    obtain ⟨b, off, rfl, hbw, _⟩ := hA.at_ hx
    have hsrc : ∀ j v, ((la.take P).map Value.bool)[j]? = some v → w.cell? ((⟨b, off, none⟩ : Addr).add j) = some v := by
      intro j v hj
      rw [List.getElem?_map] at hj
      obtain ⟨y, hy, rfl⟩ := Option.map_eq_some_iff.1 hj
      rw [List.getElem?_take] at hy
      split at hy
      · obtain ⟨b', off', e, _, hc⟩ := hA.at_ hy
        injection e with e
        injection e with e1 e2 _
        subst e1 e2
        have e3 : (⟨b, off, none⟩ : Addr).add j = ⟨b, off + j, none⟩ := by simp [Addr.add]
        rw [e3]; exact hc
      · cases hy
    have hrun := run_copy_row (P := Try.prog) w 65 65 3 4 g 0 P P ⟨b, off, none⟩ na ca _ 4 ((la.take P).map Value.bool) Try.underlying65 Try.sizeBo hb hlen hsrc (by rw [Nat.zero_add, hlen]; simp; exact Nat.min_le_right _ _) (by
      intro v hv
      obtain ⟨y, _, rfl⟩ := List.mem_map.1 hv
      rfl)
    rw [hlen] at hrun
    refine ⟨_, hrun, ?_, ?_⟩
    · have hX : ((List.replicate P false).map Value.bool).toArray.toList.take 0 ++ (la.take P).map Value.bool ++ ((List.replicate P false).map Value.bool).toArray.toList.drop (0 + Nat.min na P) = (awayOf P la).map Value.bool := by
        rw [← hsp]; unfold splice; rw [hlen]; simp
      rw [hX]
      exact setRow_heap w g _ _ 4 _ hb
    · exact ⟨rfl, rfl, rfl, by simp [World.setRow], fun k hk hne => setRow_other w g k _ hne⟩
end Go.Proofs.Ytpbbdnicafifpaa
