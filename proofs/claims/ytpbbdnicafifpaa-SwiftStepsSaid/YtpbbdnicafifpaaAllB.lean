/-
  The law's own list of so many truths.
  Conditions: up to a million of them.
-/
import Derived.Test.YtpbbdnicafifpaaEgS0
namespace Go.Proofs.Ytpbbdnicafifpaa
open Go.RowKit
set_option linter.unusedVariables false

/-- so many true, then the others -/
def tB (n k : Nat) : List Bool := List.replicate k true ++ List.replicate (n - k) false
theorem tB_len {n k : Nat} (h : k ≤ n) : (tB n k).length = n := by simp [tB]; omega
theorem tB_at {n k : Nat} (h : k < n) : (tB n k)[k]? = some false := by
  unfold tB
  rw [List.getElem?_append_right (by simp), List.length_replicate, Nat.sub_self, List.getElem?_replicate, if_pos (by omega)]
theorem tB_set {n k : Nat} (h : k < n) : (tB n k).set k true = tB n (k + 1) := by
  apply List.ext_getElem?
  intro j
  unfold tB
  rw [List.getElem?_set]
  by_cases hj : k = j
  · subst hj
    rw [if_pos rfl, if_pos (by simp; omega), List.getElem?_append_left (by simp)]
    simp
  · rw [if_neg hj]
    by_cases hjk : j < k
    · rw [List.getElem?_append_left (by simp; omega), List.getElem?_append_left (by simp; omega)]
      rw [List.getElem?_replicate, List.getElem?_replicate, if_pos hjk, if_pos (by omega)]
    · rw [List.getElem?_append_right (by simp; omega), List.getElem?_append_right (by simp; omega)]
      simp only [List.length_replicate, List.getElem?_replicate]
      by_cases hjn : j < n
      · rw [if_pos (by omega), if_pos (by omega)]
      · rw [if_neg (by omega), if_neg (by omega)]

set_option maxRecDepth 100000 in
set_option maxHeartbeats 1000000 in
theorem all_any {w : World} {n : Nat} (hn : n ≤ 1000000) :
    Calls Try.prog 33 #[.int .i64 (n : Int)] w fun e w' => ∃ g, e = .returned (.slice (some ⟨g, 0, none⟩) n n) ∧ (boolRow (.slice (some ⟨g, 0, none⟩) n n) (List.replicate n true)).own w.heap.size w' ∧ Below w.heap.size w w' := by
  obtain ⟨w1, hmk, ho, hb⟩ := run_make_bools n hn w
  obtain ⟨g, hg⟩ : ∃ q, q = w.heap.size := ⟨_, rfl⟩
  rw [← hg] at hmk ho
  have hrow : (boolRow (.slice (some ⟨g, 0, none⟩) n n) (tB n 0)).own w.heap.size w1 := by
    refine Blk.row ?_ (by rw [hg]; exact Nat.le_refl _) (tB_len (Nat.zero_le _)) hn
    have e : (tB n 0).map Value.bool = List.replicate n (Value.bool false) := by simp [tB]
    rw [e]; exact ho
  have Hrow := Lib.hid hrow
  have Hb := Lib.hid hb
  clear ho hb hrow hg
  go_enter Try.func33, Try.ntmps33
  go_wp2
  clear hmk
  go_loopw [4] (fun i wr => ∃ k : Nat, k ≤ n ∧ i = .int .i64 k ∧ (boolRow (.slice (some ⟨g, 0, none⟩) n n) (tB n k)).own w.heap.size wr ∧ Below w.heap.size w wr) (fun i _ => n - (intOf i).toNat)
  case atStart => exact ⟨0, by omega, rfl, Hrow.out, Hb.out⟩
  case round =>
    rename World => v1
    obtain ⟨k, hk, rfl, hro, hbl⟩ := hrel
    by_cases hlt : k < n
    · have hlti : (k : Int) < (n : Int) := by omega
      have c0 := boolRow.cell hro (tB_at hlt)
      have f0 := boolRow.froz hro k
      have l0 := (boolRow.lt hro).2
      have hst := boolRow.set hro true (by rw [tB_len hk]; exact hlt)
      rw [tB_set hlt] at hst
      have hb2 : Below w.heap.size w (v1.setCell ⟨g, k, none⟩ (.bool true)) := hbl.trans (hst.2.below (fun j e => by subst e; exact (boolRow.lt hro).1) hbl.size)
      have Hst := Lib.hid (And.intro hst.1 hb2)
      clear hro hst hb2 hbl
      go_wp2
      go_roundw
      case rel => exact ⟨k + 1, by omega, by go_num, Hst.out⟩
      case measure => simp [intOf]; omega
    · have hge : ¬ (k : Int) < (n : Int) := by omega
      obtain rfl : k = n := by omega
      have e : tB k k = List.replicate k true := by simp [tB]
      rw [e] at hro
      have Hro := Lib.hid hro
      have Hbl := Lib.hid hbl
      clear hro hbl e
      go_wp2
      go_ret
      exact ⟨g, rfl, Hro.out, Hbl.out⟩
end Go.Proofs.Ytpbbdnicafifpaa
