/-
  What the document's own Same and SameInts come to on equal lists: true.
  Conditions: the lists are rows that some call has made.
-/
import Derived.Test.YthpcaamfcmjnmaaRefGroups
import Derived.Deep.RegionHeld3
namespace Go.Proofs.Ythpcaamfcmjnmaa
open Go.RowKit
set_option linter.unusedVariables false

theorem own_place {B : Nat} {w : World} {a : Option Addr} {n c : Nat} {l : List Nat} (h : w.ownsRow B 3 1 (.slice a n c) l.length (ints l)) (i : Nat) (hi : i < l.length) :
    ∃ r, a = some ⟨r, 0, none⟩ ∧ r < w.heap.size ∧ w.cell? ⟨r, i, none⟩ = some (.int .i64 ((l.getD i 0 : Nat) : Int)) := by
  rcases h.2 with ⟨_, h0⟩ | ⟨r, cap, cur, hv, hB, hb, _⟩
  · omega
  · have h2 := h
    rw [hv] at h2
    injection hv with h1 h3 h4
    subst h1
    refine ⟨r, rfl, (Array.getElem?_eq_some_iff.1 hb).1, ?_⟩
    rw [h2.cellAt i (by omega)]
    simp [ints, hi]

set_option maxHeartbeats 2000000 in
theorem same_ints {B B' : Nat} (w : World) (a a' : Option Addr) (n c c' : Nat) (l : List Nat) (hn : n = l.length) (h : w.ownsRow B 3 1 (.slice a n c) l.length (ints l)) (h' : w.ownsRow B' 3 1 (.slice a' n c') l.length (ints l)) (hl : n ≤ 1000000) :
    Calls Try.prog 25 #[.slice a n c, .slice a' n c'] w fun e w' => e = .returned (.bool true) ∧ Below w.heap.size w w' := by
  have H := Lib.hid h
  have H' := Lib.hid h'
  have Hn := Lib.hid hn
  clear h h' hn
  go_enter Try.func25, Try.ntmps25
  go_wp2
  go_loopw [5] (fun t wr => ∃ i : Nat, i ≤ n ∧ t = .int .i64 i ∧ Below w.heap.size w wr) (fun t _ => n - (intOf t).toNat)
  case atStart => exact ⟨0, by omega, rfl, Below.refl _ _⟩
  case round =>
    obtain ⟨i, hi, rfl, hB⟩ := hrel
    by_cases hlt : i < n
    · obtain ⟨r, rfl, hr, hc⟩ := own_place H.out i (by rw [← Hn.out]; exact hlt)
      obtain ⟨r', rfl, hr', hc'⟩ := own_place H'.out i (by rw [← Hn.out]; exact hlt)
      have e1 := (hB.cell (p := ⟨r, i, none⟩) hr).trans hc
      have e2 := (hB.cell (p := ⟨r', i, none⟩) hr').trans hc'
      obtain ⟨x, hx⟩ : ∃ x : Nat, x = l.getD i 0 := ⟨_, rfl⟩
      rw [← hx] at e1 e2
      have hii : (i : Int) < (n : Int) := by omega
      have Bk := Lib.hid hB
      clear hc hc' hx hB
      go_wp2
      go_quiet (fail)
      go_wp2
      go_roundw
      case rel => exact ⟨i + 1, by omega, by go_num, below_drewN' Bk.out nq⟩
      case measure => simp [intOf]; omega
    · go_wp2
      go_ret
      exact ⟨rfl, hB⟩

set_option maxRecDepth 100000 in
set_option maxHeartbeats 4000000 in
theorem same_rows {B B' : Nat} (w : World) (v v' : Value) (vs vs' : List Value) (G : List (List Nat)) (h : Rows2 B w v vs G) (h' : Rows2 B' w v' vs' G) (hG : G.length ≤ 1000000) (hg : ∀ i, (G.getD i []).length ≤ 1000000) :
    Calls Try.prog 19 #[v, v'] w fun e w' => e = .returned (.bool true) ∧ Below w.heap.size w w' := by
  obtain ⟨a, c, rfl⟩ := h.form
  obtain ⟨a', c', rfl⟩ := h'.form
  have H := Lib.hid h
  have H' := Lib.hid h'
  clear h h'
  obtain ⟨n, hn⟩ : ∃ n, n = G.length := ⟨_, rfl⟩
  simp only [← hn] at H H' ⊢
  rw [← hn] at hG
  have Hn := Lib.hid hn
  have Hg := Lib.hid hg
  clear hn hg
  go_enter Try.func19, Try.ntmps19
  go_wp2
  go_loopw [5] (fun t wr => ∃ i : Nat, i ≤ n ∧ t = .int .i64 i ∧ Below w.heap.size w wr) (fun t _ => n - (intOf t).toNat)
  case atStart => exact ⟨0, by omega, rfl, Below.refl _ _⟩
  case round =>
    obtain ⟨i, hi, rfl, hB⟩ := hrel
    by_cases hlt : i < n
    · have hlG : i < G.length := by rw [← Hn.out]; exact hlt
      obtain ⟨r, cap, hv, hrB, hrl, hcell⟩ := H.out.place (by omega)
      obtain ⟨r', cap', hv', hrB', hrl', hcell'⟩ := H'.out.place (by omega)
      injection hv with hv1 hv2 hv3
      injection hv' with hv1' hv2' hv3'
      subst hv1 hv3 hv1' hv3'
      obtain ⟨ai, ci, hi1⟩ := H.out.rowform i hlG
      obtain ⟨ai', ci', hi1'⟩ := H'.out.rowform i hlG
      have d1 := (hcell i hlG).1
      have d1' := (hcell' i hlG).1
      rw [hi1] at d1
      rw [hi1'] at d1'
      have o1 := H.out.row i hlG
      have o1' := H'.out.row i hlG
      rw [hi1] at o1
      rw [hi1'] at o1'
      have hgi := Hg.out i
      obtain ⟨k, hk⟩ : ∃ k, k = (G.getD i []).length := ⟨_, rfl⟩
      have HK := Lib.hid hk
      rw [← hk] at d1 d1' hgi
      have e1 := (hB.cell (p := ⟨r, i, none⟩) hrl).trans d1
      have e2 := (hB.cell (p := ⟨r', i, none⟩) hrl').trans d1'
      have O1 : Hid (wr.drew.ownsRow B 3 1 (.slice ai k ci) (G.getD i []).length (ints (G.getD i []))) := Lib.hid (by rw [hk]; exact (ownS (S := fun _ => False) o1 (Kept.of_below hB) (fun _ _ e => e)).drew)
      have O2 : Hid (wr.drew.ownsRow B' 3 1 (.slice ai' k ci') (G.getD i []).length (ints (G.getD i []))) := Lib.hid (by rw [hk]; exact (ownS (S := fun _ => False) o1' (Kept.of_below hB) (fun _ _ e => e)).drew)
      have hrw : r < wr.drew.heap.size := Nat.lt_of_lt_of_le hrl hB.size
      have hrw' : r' < wr.drew.heap.size := Nat.lt_of_lt_of_le hrl' hB.size
      have hii : (i : Int) < (n : Int) := by omega
      have hi0 : (0 : Int) ≤ (i : Int) := by omega
      have Bk := Lib.hid hB
      clear hcell hcell' d1 d1' o1 o1' hk hi1 hi1' hv2 hv2' hB
      go_wp2
      go_region_held3 (fun w' => w'.cell? ⟨r, i, none⟩ = some (.slice ai k ci) ∧ w'.cell? ⟨r', i, none⟩ = some (.slice ai' k ci')) (first | go_keep | exact ⟨f1, f2⟩)
        ((go_at_call 25; refine (same_ints wr.drew ai ai' k ci ci' (G.getD i []) HK.out O1.out O2.out hgi).mono ?_; rintro e w2 ⟨rfl, b2⟩; have f1 := (b2.cell (p := ⟨r, i, none⟩) hrw).trans (show wr.drew.cell? ⟨r, i, none⟩ = _ from e1); have f2 := (b2.cell (p := ⟨r', i, none⟩) hrw').trans (show wr.drew.cell? ⟨r', i, none⟩ = _ from e2)))
      have B2 := Lib.hid (Bk.out.drew.trans (b2.mono Bk.out.drew.size))
      clear f1 f2 b2 e1 e2
      go_wp2
      go_roundw
      case rel => exact ⟨i + 1, by omega, by go_num, B2.out⟩
      case measure => simp [intOf]; omega
    · go_wp2
      go_ret
      exact ⟨rfl, hB⟩

end Go.Proofs.Ythpcaamfcmjnmaa
