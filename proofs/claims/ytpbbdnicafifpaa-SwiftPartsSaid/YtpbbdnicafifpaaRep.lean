/-
  What slices.Repeat of one truth comes to: so many.
  Conditions: none beyond each theorem's own.
-/
import Derived.Test.YtpbbdnicafifpaaMarkI
import Derived.Test.YtpbbdnicafifpaaBMul
namespace Go.Proofs.Ytpbbdnicafifpaa
open Go.RowKit
set_option linter.unusedVariables false

theorem Try.infoBo : (Try.prog.info? 4).map (fun i => (i.zero, i.size, i.bytes)) = some (some (.bool false), 1, 1) := by kernel_rfl
theorem Try.sizeBo : (Try.prog.info? 4).map (·.size) = some 1 := by kernel_rfl

/-- a block that is just these cells -/
def Blk (w : World) (g : Nat) (xs : List Value) : Prop := w.heap[g]? = some (.cells xs.toArray 4 (0, 0))
theorem Blk.own {B g : Nat} {w : World} {xs : List Value} {n : Nat} (h : Blk w g xs) (hB : B ≤ g) (hn : xs.length = n) (hm : n ≤ 1000000) : w.ownsRow B 4 1 (.slice (some ⟨g, 0, none⟩) n n) n xs :=
  ⟨by omega, .inr ⟨g, n, _, rfl, hB, h, Nat.le_refl _, by unfold maxLen; omega, by simp; omega, by simp; exact List.take_of_length_le (by omega)⟩⟩
theorem Blk.of_own {B g : Nat} {w : World} {xs : List Value} {n : Nat} (h : w.ownsRow B 4 1 (.slice (some ⟨g, 0, none⟩) n n) n xs) : Blk w g xs := by
  obtain ⟨hl, h⟩ := h
  rcases h with ⟨e, _⟩ | ⟨r, cap, cur, e, _, hb, _, _, hs, ht⟩
  · cases e
  · injection e with e1 _ e3
    injection e1 with e1
    injection e1 with e1
    subst e1 e3
    unfold Blk
    rw [hb, ← ht, List.take_of_length_le (by simp; omega)]
theorem Blk.raw {w : World} {g : Nat} {xs : List Value} (h : Blk w g xs) : w.heap[g]? = some (.cells xs.toArray 4 (0, 0)) := h
theorem Blk.lt {w : World} {g : Nat} {xs : List Value} (h : Blk w g xs) : g < w.heap.size := (Array.getElem?_eq_some_iff.1 h).1
theorem Blk.cell {w : World} {g : Nat} {xs : List Value} (h : Blk w g xs) {j : Nat} {v : Value} (hj : xs[j]? = some v) : w.cell? ⟨g, j, none⟩ = some v := by
  rw [cell_of_row w g j _ _ (0, 0) h]; simpa using hj

theorem run_make_bools (m : Nat) (hm : m ≤ 1000000) (w : World) : ∃ w', (Instr.makeSlice 65 (.int .i64 (m : Int)) (.int .i64 (m : Int))).run Try.prog w = .ok (.slice (some ⟨w.heap.size, 0, none⟩) m m) w' ∧ Blk w' w.heap.size (List.replicate m (.bool false)) ∧ Below w.heap.size w w' := by
  obtain ⟨i0, hi0, hz0, hz1, hz2⟩ := info_parts Try.infoBo
  obtain ⟨w', h1, h2, h3⟩ := run_make_full (P := Try.prog) w w.heap.size 65 4 i0 _ 1 Try.underlying65 hi0 hz0 hz1 .i64 .i64 m (by rw [hz2]; omega) (by unfold maxLen; omega) (Nat.le_refl _)
  refine ⟨w', h1, Blk.of_own (B := w.heap.size) (n := m) ?_, ⟨h3.os, h3.tape, h3.output, h3.size, fun k hk => h3.block k hk (by simp)⟩⟩
  have e : List.replicate m (Value.bool false) = (madeCells (Value.bool false).cells (m * 1)).toList := by
    have : (Value.bool false).cells = #[.bool false] := rfl
    rw [this, toList_madeCells_one, Nat.mul_one]
  rw [e]
  exact h2

/-- so many true, then the others -/
def trueTo (n k : Nat) : List Value := List.replicate k (.bool true) ++ List.replicate (n - k) (.bool false)
theorem trueTo_len {n k : Nat} (h : k ≤ n) : (trueTo n k).length = n := by simp [trueTo]; omega
theorem trueTo_splice {n k : Nat} (h : k ≤ n) (j : Nat) (hj : k + j ≤ n) : splice (trueTo n k) k (List.replicate j (.bool true)) = trueTo n (k + j) := by
  unfold splice trueTo
  rw [List.take_left' (by simp), List.length_replicate]
  have e : (List.replicate k (Value.bool true) ++ List.replicate (n - k) (Value.bool false)).drop (k + j) = List.replicate (n - (k + j)) (.bool false) := by
    rw [List.drop_append]
    simp
    omega
  rw [e, ← List.append_assoc, List.replicate_append_replicate]

theorem copy_blk {w w0 : World} {B g k n : Nat} {cur X : List Value} (hb : Blk w g cur) (hn : X.length = Nat.min k (n - k)) (hk : 0 < k) (hkn : k < n) (hsrc : ∀ j v, X[j]? = some v → w.cell? ((⟨g, 0, none⟩ : Addr).add j) = some v) (hfit : k + X.length ≤ cur.length) (h1 : ∀ v ∈ X, v.oneCell' = true) (hbl : Below B w0 w) (hB : B ≤ g) :
    ∃ w', (Builtin.copy_ #[65, 65] 3 #[.slice (some ⟨g, k, none⟩) (n - k) (n - k), .slice (some ⟨g, 0, none⟩) k n]).run Try.prog w = .ok (.int .i64 (X.length : Int)) w' ∧ Blk w' g (splice cur k X) ∧ Below B w0 w' := by
  have hrun := run_copy_row (P := Try.prog) w 65 65 3 4 g k (n - k) (n - k) ⟨g, 0, none⟩ k n cur.toArray 4 X Try.underlying65 Try.sizeBo hb hn hsrc (by simpa using hfit) h1
  exact ⟨_, hrun, (show _ = _ by simpa [splice] using setRow_heap w g _ _ 4 _ hb), below_setRow hbl hB _⟩

set_option maxRecDepth 100000 in
set_option maxHeartbeats 4000000 in
theorem repeat_any {w : World} {b n : Nat} (hn : n ≤ 1000000) (hb : b < w.heap.size) (hc : w.cell? ⟨b, 0, none⟩ = some (.bool true)) :
    Calls Try.prog 53 #[.slice (some ⟨b, 0, none⟩) 1 1, .int .i64 (n : Int)] w fun e w' => ∃ g, e = .returned (.slice (some ⟨g, 0, none⟩) n n) ∧ w'.ownsRow w.heap.size 4 1 (.slice (some ⟨g, 0, none⟩) n n) n (List.replicate n (.bool true)) ∧ Below w.heap.size w w' := by
  obtain ⟨w1, hmk, hg1, hb1⟩ := run_make_bools n hn w
  have hc1 := (hb1.cell (p := ⟨b, 0, none⟩) hb).trans hc
  have Hmul := Lib.hid (mul_one1 n (by omega) w)
  have Hg1 : Hid (Blk w1 w.heap.size (trueTo n 0)) := Lib.hid (by simpa [trueTo] using hg1)
  have Hb1 := Lib.hid hb1
  have Hc1 := Lib.hid hc1
  obtain ⟨g, hg⟩ : ∃ g, g = w.heap.size := ⟨_, rfl⟩
  have Hg := Lib.hid hg
  rw [← hg] at hmk Hg1
  clear hg1 hb1 hc1 hg
  have hmx : ¬ (9223372036854775807 : Int) < (n : Int) := by omega
  have hng : ¬ (n : Int) < 0 := by omega
  obtain ⟨X1, hX1⟩ : ∃ X1, X1 = List.replicate (min 1 n) (Value.bool true) := ⟨_, rfl⟩
  have L1 : Hid (X1.length = min 1 n) := Lib.hid (by rw [hX1]; simp)
  have O1 : Hid (∀ v ∈ X1, v.oneCell' = true) := Lib.hid (by intro v hv; rw [hX1] at hv; rw [List.eq_of_mem_replicate hv]; rfl)
  have S1 : Hid (∀ j v, X1[j]? = some v → w1.cell? ((⟨b, 0, none⟩ : Addr).add j) = some v) := Lib.hid (by
    intro j v hj
    have hlt := lt_at hj
    have hl := L1.out
    obtain rfl : j = 0 := by omega
    have hv := List.mem_of_getElem? hj
    rw [hX1] at hv
    rw [List.eq_of_mem_replicate hv]
    exact Hc1.out)
  have P1 : Hid (splice (trueTo n 0) 0 X1 = trueTo n (min 1 n)) := Lib.hid (by rw [hX1]; have := trueTo_splice (n := n) (k := 0) (by omega) (min 1 n) (by omega); rwa [Nat.zero_add] at this)
  clear hX1
  have hgw : Hid (w.heap.size ≤ g) := Lib.hid (by rw [Hg.out]; exact Nat.le_refl _)
  go_enter Try.func53, Try.ntmps53
  go_upto_region 7 with (go_at_call 78; refine Hmul.out.mono ?_; rintro e w' ⟨rfl, rfl⟩)
  go_wp2_with ((with_reducible show wpList _ _ _ (⟨some 33, _, _, _, _, _⟩ :: _) _ _; refine wpList_copy_splice (o := ⟨some 33, _, _, _, _, _⟩) rfl (.tmp 31) (.tmp 32) 65 65 rfl 4 Try.underlying65 Try.sizeBo _ _ _ _ _ _ rfl rfl g 0 (trueTo n 0) 4 (Blk.raw Hg1.out) X1 (by rw [L1.out]) (fun _ => ⟨rfl, _, rfl, S1.out⟩) (by rw [L1.out, trueTo_len (by omega)]; omega) O1.out w.heap.size w Hb1.out hgw.out ?_; intro w2 hrow2 hbel2; have Hb2 := Lib.hid hbel2; clear hbel2))
  have H2 : Hid (Blk w2 g (trueTo n (min 1 n))) := Lib.hid (by have := hrow2.out; rw [P1.out] at this; exact this)
  clear hrow2 hmk
  rw [L1.out]
  go_loopw [8] (fun i wr => ∃ k : Nat, k ≤ n ∧ (0 < n → 0 < k) ∧ i = .int .i64 k ∧ Blk wr g (trueTo n k) ∧ Below w.heap.size w wr) (fun i _ => n - (intOf i).toNat)
  case atStart => exact ⟨min 1 n, by omega, by omega, rfl, H2.out, Hb2.out⟩
  case round =>
    rename World => v1
    obtain ⟨k, hk, hk0, rfl, hr, hbl⟩ := hrel
    have Hr := Lib.hid hr
    have Hbl := Lib.hid hbl
    clear hr hbl
    by_cases hlt : k < n
    · have hlti : (k : Int) < (n : Int) := by omega
      obtain ⟨j, hj⟩ : ∃ j, j = min k (n - k) := ⟨_, rfl⟩
      obtain ⟨X2, hX2⟩ : ∃ X2, X2 = List.replicate j (Value.bool true) := ⟨_, rfl⟩
      have L2 : Hid (X2.length = j) := Lib.hid (by rw [hX2]; simp)
      have O2 : Hid (∀ v ∈ X2, v.oneCell' = true) := Lib.hid (by intro v hv; rw [hX2] at hv; rw [List.eq_of_mem_replicate hv]; rfl)
      have S2 : Hid (∀ i v, X2[i]? = some v → v1.cell? ((⟨g, 0, none⟩ : Addr).add i) = some v) := Lib.hid (by
        intro i v hi
        have hlt := lt_at hi
        have hl := L2.out
        have hv := List.mem_of_getElem? hi
        rw [hX2] at hv
        rw [List.eq_of_mem_replicate hv]
        have e : (⟨g, 0, none⟩ : Addr).add i = ⟨g, i, none⟩ := by simp [Addr.add]; omega
        rw [e]
        refine Hr.out.cell ?_
        unfold trueTo
        rw [List.getElem?_append_left (by rw [List.length_replicate]; omega), List.getElem?_replicate, if_pos (by omega)])
      have P2 : Hid (splice (trueTo n k) k X2 = trueTo n (k + j)) := Lib.hid (by rw [hX2]; exact trueTo_splice hk j (by omega))
      have J2 : Hid (j = min k (n - k)) := Lib.hid hj
      have hj1 : 0 < j := by omega
      have hj2 : k + j ≤ n := by omega
      clear hX2 hj
      go_wp2
      have hki : (k : Int) ≤ (n : Int) := by omega
      have hcap : ¬ n = k := by omega
      obtain ⟨w3, hrun, hblk3, hbel3⟩ := copy_blk (w := v1.drew) (w0 := w) (B := w.heap.size) (n := n) (k := k) (X := X2) (show Blk v1.drew g (trueTo n k) from Hr.out) (by rw [L2.out, J2.out]) (by omega) hlt S2.out (by rw [L2.out, trueTo_len hk]; exact hj2) O2.out Hbl.out.drew hgw.out
      rw [P2.out] at hblk3
      rw [L2.out] at hrun
      have Hblk3 := Lib.hid hblk3
      have Hbel3 := Lib.hid hbel3
      have hki2 : (k : Int) + (j : Int) ≤ 1000000 := by omega
      clear hblk3 hbel3
      go_region
      go_wp2
      go_roundw
      case rel => exact ⟨k + j, hj2, by omega, by go_num, Hblk3.out, Hbel3.out⟩
      case measure => simp [intOf]; omega
    · have hge : ¬ (k : Int) < (n : Int) := by omega
      obtain rfl : k = n := by omega
      have Ho : Hid (v1.ownsRow w.heap.size 4 1 (.slice (some ⟨g, 0, none⟩) k k) k (List.replicate k (.bool true))) := Lib.hid (by
        have := Hr.out.own (B := w.heap.size) (n := k) hgw.out (trueTo_len (Nat.le_refl _)) hn
        simpa [trueTo] using this)
      go_wp2
      go_ret
      exact ⟨_, rfl, Ho.out, Hbl.out⟩
end Go.Proofs.Ytpbbdnicafifpaa
