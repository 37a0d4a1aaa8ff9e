/-
  The walk of the law PlainLimits: how much is too much, at one time and in all.
  Conditions: none beyond the theorems' own.
-/
import Derived.Test.YtfekgcfojhbngaaRunJ
import Derived.Test.YtfekgcfojhbngaaNearIn
namespace Go.Proofs.Ytfekgcfojhbngaa
open Go.RowKit
set_option linter.unusedVariables false

def trL9 (o : Int) : Tr := ⟨{ data := #[116] }, 1, 0, [(0, 1)], [], [(o, 1)]⟩
def netL (tok o : Int) : Nt := ⟨[⟨{ data := #[112] }, tok⟩, ⟨{ data := #[113] }, 0⟩], [trL9 o]⟩
theorem netL_c20 : checkN (netL 20 1) = 0 := by decide +kernel
theorem netL_c21 : checkN (netL 21 1) = 0 := by decide +kernel
theorem netL_c1 : checkN (netL 1 0) = 0 := by decide +kernel
theorem netL_names (tok o : Int) : ∀ s ∈ (netL tok o).names, s.size ≤ 9223372036854775807 := by
  intro s hs
  simp [Nt.names, netL, trL9] at hs
  rcases hs with rfl | rfl | rfl <;> decide
theorem netL_20 : (runN (netL 20 1) 3).2.2 = 0 ∧ (runN (netL 20 1) 3).1.log.length = 20 := ⟨by kernel_rfl, by kernel_rfl⟩
theorem netL_21 : (runN (netL 21 1) 3).2.2 = 4 ∧ (runN (netL 21 1) 3).1.log.length = 20 := ⟨by kernel_rfl, by kernel_rfl⟩

/-- a token that goes round: what has fired ahead of time t -/
def logO (t : Nat) : List (Int × Int) := (List.range t).map fun (i : Nat) => ((i : Int), (0 : Int))
theorem logO_len (t : Nat) : (logO t).length = t := by simp [logO]
theorem logO_succ (t : Nat) : logO (t + 1) = logO t ++ [((t : Int), 0)] := by simp [logO, List.range_succ]
theorem best_one : bestTo [1, 0] [trL9 0] 1 = 0 := by decide
theorem best_non : bestTo [0, 0] [trL9 0] 1 = -1 := by decide
theorem instO_go (t : Nat) (ht : t < 2000) (k : Nat) : inst [trL9 0] (t : Int) (k + 2) [0] ⟨logO t, [1, 0], []⟩ = (⟨logO (t + 1), [0, 0], [⟨(t : Int) + 1, 0, 1⟩]⟩, 0) := by
  have h1 : getI [0] 0 = 0 := rfl
  have h3 : fire (t : Int) 0 (trL9 0) ⟨logO t, [1, 0], []⟩ = ⟨logO (t + 1), [0, 0], [⟨(t : Int) + 1, 0, 1⟩]⟩ := by
    have hl : takeL [((0 : Int), (1 : Int))] [1, 0] = [0, 0] := by decide +kernel
    have hd : due (t : Int) ⟨(t : Int) + 1, 0, 1⟩ = false := decide_eq_false (by show ¬ ((t : Int) + 1 ≤ t); omega)
    have hl2 : late (t : Int) ⟨(t : Int) + 1, 0, 1⟩ = true := decide_eq_true (by show (t : Int) < t + 1; omega)
    simp [fire, fired, arrive, arrM, outs, trL9, logO_succ, hl, hd, hl2]
  have e1 : inst [trL9 0] (t : Int) (k + 2) [0] ⟨logO t, [1, 0], []⟩ = inst [trL9 0] (t : Int) (k + 1) [1] (fire (t : Int) 0 (trL9 0) ⟨logO t, [1, 0], []⟩) := by
    have hg := inst_go (ts := [trL9 0]) (t := (t : Int)) (k := k + 1) (c := [0]) (s := ⟨logO t, [1, 0], []⟩) (b := 0) (x := trL9 0) best_one rfl (by unfold refuseN; rw [if_neg (by decide), if_neg (by simp [logO_len]; omega)])
    exact hg.1
  rw [e1, h3, inst_stop (by show bestTo [0, 0] [trL9 0] 1 < 0; rw [best_non]; decide)]
theorem instO_end (k : Nat) : inst [trL9 0] ((2000 : Nat) : Int) (k + 1) [0] ⟨logO 2000, [1, 0], []⟩ = (⟨logO 2000, [1, 0], []⟩, 5) := by
  have hr : refuseN ⟨logO 2000, [1, 0], []⟩ (getI [0] ((0 : Nat) : Int)) = 5 := by unfold refuseN; rw [if_neg (by decide), if_pos (by simp [logO_len])]
  rw [inst_ref (ts := [trL9 0]) (b := 0) best_one (by rw [hr]; decide), hr]
/-- the state ahead of time t -/
def stO (t : Nat) : St := if t = 0 then ⟨[], [1, 0], []⟩ else ⟨logO t, [0, 0], [⟨(t : Int), 0, 1⟩]⟩
theorem stO_arr (t : Nat) : arrive (t : Int) (stO t) = ⟨logO t, [1, 0], []⟩ := by
  unfold stO
  split
  · rename_i h; subst h; rfl
  · simp [arrive, arrM, due, late, addE, getI]
theorem stO_next (t : Nat) : (⟨logO (t + 1), [0, 0], [⟨(t : Int) + 1, 0, 1⟩]⟩ : St) = stO (t + 1) := by simp [stO]
theorem instAllO_go (t : Nat) (ht : t < 2000) : instAll [trL9 0] (t : Int) (stO t) = (stO (t + 1), 0) := by
  unfold instAll
  rw [stO_arr, ← stO_next]
  exact instO_go t ht 1999
theorem instAllO_end : instAll [trL9 0] ((2000 : Nat) : Int) (stO 2000) = (⟨logO 2000, [1, 0], []⟩, 5) := by
  unfold instAll
  rw [stO_arr]
  exact instO_end 2000
theorem nextO (t : Nat) : nextT (stO (t + 1)).q = ((t + 1 : Nat) : Int) := by simp [stO, nextT]
theorem timesO (h : Nat) (hh : h ≤ 1999) : ∀ (d t : Nat), t + d = h → times [trL9 0] (h : Int) (d + 1) (t : Int) (stO t) = (stO (h + 1), (h : Int), 0)
  | 0, t, e => by
    have : t = h := by omega
    subst this
    rw [times_go (by rw [instAllO_go t (by omega)]), instAllO_go t (by omega)]
    simp only [nextO]
    rw [if_neg (by omega)]
  | d + 1, t, e => by
    rw [times_go (by rw [instAllO_go t (by omega)]), instAllO_go t (by omega)]
    simp only [nextO]
    rw [if_pos (by omega)]
    exact timesO h hh d (t + 1) (by omega)
theorem timesO2 : ∀ (d t : Nat), t + d = 2000 → times [trL9 0] ((2000 : Nat) : Int) (d + 1) (t : Int) (stO t) = (⟨logO 2000, [1, 0], []⟩, ((2000 : Nat) : Int), 5)
  | 0, t, e => by
    have : t = 2000 := by omega
    subst this
    rw [times_err (by rw [instAllO_end]; decide), instAllO_end]
  | d + 1, t, e => by
    rw [times_go (by rw [instAllO_go t (by omega)]), instAllO_go t (by omega)]
    simp only [nextO]
    rw [if_pos (by omega)]
    exact timesO2 d (t + 1) (by omega)
theorem netL_1999 : (runN (netL 1 0) ((1999 : Nat) : Int)).2.2 = 0 ∧ (runN (netL 1 0) ((1999 : Nat) : Int)).1.log.length = 2000 := by
  have hs : start (netL 1 0) = stO 0 := rfl
  have ht : (netL 1 0).trans = [trL9 0] := rfl
  have e : runN (netL 1 0) ((1999 : Nat) : Int) = times [trL9 0] ((1999 : Nat) : Int) (1999 + 1) 0 (stO 0) := by
    unfold runN
    rw [if_pos (Int.natCast_nonneg _), Int.toNat_natCast, hs, ht]
  have hq := timesO 1999 (by omega) 1999 0 (by omega)
  rw [Int.natCast_zero] at hq
  rw [e, hq]
  exact ⟨rfl, by simp [stO, logO_len]⟩
theorem netL_2000 : (runN (netL 1 0) ((2000 : Nat) : Int)).2.2 = 5 ∧ (runN (netL 1 0) ((2000 : Nat) : Int)).1.log.length = 2000 := by
  have hs : start (netL 1 0) = stO 0 := rfl
  have ht : (netL 1 0).trans = [trL9 0] := rfl
  have e : runN (netL 1 0) ((2000 : Nat) : Int) = times [trL9 0] ((2000 : Nat) : Int) (2000 + 1) 0 (stO 0) := by
    unfold runN
    rw [if_pos (Int.natCast_nonneg _), Int.toNat_natCast, hs, ht]
  have hq := timesO2 2000 0 (by omega)
  rw [Int.natCast_zero] at hq
  rw [e, hq]
  exact ⟨rfl, by simp [logO_len]⟩

/-- the law's net, laid cell by cell -/
def worldL (w : World) (tok o : Int) : World := (((w.alloc (.cells #[.string { data := #[112] }, .int .i64 tok, .string { data := #[113] }, .int .i64 0] 53)).alloc (.cells #[.int .i64 0, .int .i64 1] 56)).alloc (.cells #[.int .i64 o, .int .i64 1] 56)).alloc (.cells #[.string { data := #[116] }, .int .i64 1, .int .i64 0, .slice (some ⟨w.heap.size + 1, 0, none⟩) 1 1, .slice none 0 0, .slice (some ⟨w.heap.size + 2, 0, none⟩) 1 1] 46)
theorem worldL_below (w : World) (tok o : Int) : Below w.heap.size w (worldL w tok o) := ((((Below.refl _ w).alloc (Nat.le_refl _) _).alloc (by simp) _).alloc (by simp; omega) _).alloc (by simp; omega) _
theorem netL_at (w : World) (tok o : Int) : NetAt (worldL w tok o) (.slice (some ⟨w.heap.size, 0, none⟩) 2 2) (.slice (some ⟨w.heap.size + 3, 0, none⟩) 1 1) (netL tok o) := by
  have k0 : CellsAre (worldL w tok o) w.heap.size 0 [.string { data := #[112] }, .int .i64 tok, .string { data := #[113] }, .int .i64 0] := ⟨by unfold worldL; go_simp, by unfold worldL; go_simp, by unfold worldL; go_simp, by unfold worldL; go_simp, trivial⟩
  have k1 : CellsAre (worldL w tok o) (w.heap.size + 1) 0 [.int .i64 0, .int .i64 1] := ⟨by unfold worldL; go_simp, by unfold worldL; go_simp, trivial⟩
  have k2 : CellsAre (worldL w tok o) (w.heap.size + 2) 0 [.int .i64 o, .int .i64 1] := ⟨by unfold worldL; go_simp, by unfold worldL; go_simp, trivial⟩
  have k3 : CellsAre (worldL w tok o) (w.heap.size + 3) 0 [.string { data := #[116] }, .int .i64 1, .int .i64 0, .slice (some ⟨w.heap.size + 1, 0, none⟩) 1 1, .slice none 0 0, .slice (some ⟨w.heap.size + 2, 0, none⟩) 1 1] := ⟨by unfold worldL; go_simp, by unfold worldL; go_simp, by unfold worldL; go_simp, by unfold worldL; go_simp, by unfold worldL; go_simp, by unfold worldL; go_simp, trivial⟩
  have hsz : (worldL w tok o).heap.size = w.heap.size + 4 := by unfold worldL; simp
  refine netAt_mk (k0.row (by omega) rfl (Nat.le_refl _) (by omega)) [(trL9 o, .slice (some ⟨w.heap.size + 1, 0, none⟩) 1 1, .slice none 0 0, .slice (some ⟨w.heap.size + 2, 0, none⟩) 1 1)] rfl (k3.row (by omega) rfl (Nat.le_refl _) (by omega)) ?_
  intro x hx
  rw [List.mem_singleton] at hx
  subst hx
  exact ⟨k1.row (by omega) rfl (Nat.le_refl _) (by omega), arcsAt_nil _, k2.row (by omega) rfl (Nat.le_refl _) (by omega)⟩
theorem runL {w : World} {tok o h er : Int} {ll : Nat} (hc : checkN (netL tok o) = 0) (hr : (runN (netL tok o) h).2.2 = er ∧ (runN (netL tok o) h).1.log.length = ll) :
    Calls Try.prog 14 #[.agg #[.slice (some ⟨w.heap.size, 0, none⟩) 2 2, .slice (some ⟨w.heap.size + 3, 0, none⟩) 1 1], .int .i64 h] ((worldL w tok o).alloc (.cells #[.slice (some ⟨w.heap.size, 0, none⟩) 2 2, .slice (some ⟨w.heap.size + 3, 0, none⟩) 1 1] 31)) fun e w' => ∃ al cl bm cm bw nw tt, e = .returned (.tuple #[.agg #[.slice al ll cl, .slice (some ⟨bm, 0, none⟩) 2 cm, .slice (some ⟨bw, 0, none⟩) nw nw, .int .i64 tt], .int .i64 er]) ∧ Below w.heap.size w w' := by
  have hb0 := worldL_below w tok o
  have hnew : Below (worldL w tok o).heap.size (worldL w tok o) ((worldL w tok o).alloc (.cells #[.slice (some ⟨w.heap.size, 0, none⟩) 2 2, .slice (some ⟨w.heap.size + 3, 0, none⟩) 1 1] 31)) := (Below.refl _ _).alloc (Nat.le_refl _) _
  refine (run_any (h := h) (n := netL tok o) rfl rfl ((netL_at w tok o).below hnew) (netL_names tok o) hc).mono ?_
  rintro e w1 ⟨al, nl, cl, bm, cm, bw, nw, rfl, hnl, _, _, hb⟩
  rw [hr.2] at hnl
  subst hnl
  rw [hr.1]
  have h1 := hb0.trans (hnew.mono hb0.size)
  exact ⟨al, cl, bm, cm, bw, nw, _, rfl, h1.trans (hb.mono h1.size)⟩

set_option maxRecDepth 100000 in
set_option maxHeartbeats 4000000 in
theorem limits_even_just {w : World} {hz : Nat} (ho : ¬ ((hz : Int) % 2) = 1) :
    Calls Try.prog 6 #[.int .u8 hz, .bool false] w fun e w' => e = .returned (.bool true) ∧ Below w.heap.size w w' := by
  have hob : (((hz : Int) % 2) == 1) = false := by simpa using ho
  have hrun := runL (w := w) (h := 3) netL_c20 netL_20
  simp only [worldL] at hrun
  have Hrun := Lib.hid hrun
  clear hrun
  go_enter Try.func6, Try.ntmps6
  go_wp2_with (fail)
  refine Hrun.out.mono ?_
  rintro e w1 ⟨al, cl, bm, cm, bw, nw, tt, rfl, hb⟩
  have hb2 : Below w1.heap.size w1 (w1.alloc (.cells #[.slice al 20 cl, .slice (some ⟨bm, 0, none⟩) 2 cm, .slice (some ⟨bw, 0, none⟩) nw nw, .int .i64 tt] 36)) := (Below.refl _ _).alloc (Nat.le_refl _) _
  have hd0 : (w1.alloc (.cells #[.slice al 20 cl, .slice (some ⟨bm, 0, none⟩) 2 cm, .slice (some ⟨bw, 0, none⟩) nw nw, .int .i64 tt] 36)).cell? ⟨w1.heap.size, 0, none⟩ = some (.slice al 20 cl) := by go_simp
  have Hb := Lib.hid (hb.trans (hb2.mono hb.size))
  have Hd0 := Lib.hid hd0
  clear hb hb2 hd0
  go_wp2_with (fail)
  refine (awake9 _).mono ?_
  rintro e w2 ⟨rfl, hb3⟩
  have d0 := (below_cells hb3 w1.heap.size 0 (by simp)).trans Hd0.out
  have Hb3 := Lib.hid (Hb.out.trans (hb3.mono Hb.out.size))
  clear hb3
  go_wp2
  go_ret
  exact ⟨rfl, Hb3.out⟩

set_option maxRecDepth 100000 in
set_option maxHeartbeats 4000000 in
theorem limits_even_more {w : World} {hz : Nat} (ho : ¬ ((hz : Int) % 2) = 1) :
    Calls Try.prog 6 #[.int .u8 hz, .bool true] w fun e w' => e = .returned (.bool true) ∧ Below w.heap.size w w' := by
  have hob : (((hz : Int) % 2) == 1) = false := by simpa using ho
  have hrun := runL (w := w) (h := 3) netL_c21 netL_21
  simp only [worldL] at hrun
  have Hrun := Lib.hid hrun
  clear hrun
  go_enter Try.func6, Try.ntmps6
  go_wp2_with (fail)
  refine Hrun.out.mono ?_
  rintro e w1 ⟨al, cl, bm, cm, bw, nw, tt, rfl, hb⟩
  have hb2 : Below w1.heap.size w1 (w1.alloc (.cells #[.slice al 20 cl, .slice (some ⟨bm, 0, none⟩) 2 cm, .slice (some ⟨bw, 0, none⟩) nw nw, .int .i64 tt] 36)) := (Below.refl _ _).alloc (Nat.le_refl _) _
  have hd0 : (w1.alloc (.cells #[.slice al 20 cl, .slice (some ⟨bm, 0, none⟩) 2 cm, .slice (some ⟨bw, 0, none⟩) nw nw, .int .i64 tt] 36)).cell? ⟨w1.heap.size, 0, none⟩ = some (.slice al 20 cl) := by go_simp
  have Hb := Lib.hid (hb.trans (hb2.mono hb.size))
  have Hd0 := Lib.hid hd0
  clear hb hb2 hd0
  go_wp2_with (fail)
  refine (awake9 _).mono ?_
  rintro e w2 ⟨rfl, hb3⟩
  have d0 := (below_cells hb3 w1.heap.size 0 (by simp)).trans Hd0.out
  have Hb3 := Lib.hid (Hb.out.trans (hb3.mono Hb.out.size))
  clear hb3
  go_wp2
  go_ret
  exact ⟨rfl, Hb3.out⟩

set_option maxRecDepth 100000 in
set_option maxHeartbeats 4000000 in
theorem limits_odd_just {w : World} {hz : Nat} (ho : ((hz : Int) % 2) = 1) :
    Calls Try.prog 6 #[.int .u8 hz, .bool false] w fun e w' => e = .returned (.bool true) ∧ Below w.heap.size w w' := by
  have hob : (((hz : Int) % 2) == 1) = true := by simpa using ho
  have hrun := runL (w := w) (h := 1999) netL_c1 netL_1999
  simp only [worldL] at hrun
  have Hrun := Lib.hid hrun
  clear hrun
  go_enter Try.func6, Try.ntmps6
  go_wp2_with (fail)
  refine Hrun.out.mono ?_
  rintro e w1 ⟨al, cl, bm, cm, bw, nw, tt, rfl, hb⟩
  have hb2 : Below w1.heap.size w1 (w1.alloc (.cells #[.slice al 2000 cl, .slice (some ⟨bm, 0, none⟩) 2 cm, .slice (some ⟨bw, 0, none⟩) nw nw, .int .i64 tt] 36)) := (Below.refl _ _).alloc (Nat.le_refl _) _
  have hd0 : (w1.alloc (.cells #[.slice al 2000 cl, .slice (some ⟨bm, 0, none⟩) 2 cm, .slice (some ⟨bw, 0, none⟩) nw nw, .int .i64 tt] 36)).cell? ⟨w1.heap.size, 0, none⟩ = some (.slice al 2000 cl) := by go_simp
  have Hb := Lib.hid (hb.trans (hb2.mono hb.size))
  have Hd0 := Lib.hid hd0
  clear hb hb2 hd0
  go_wp2_with (fail)
  refine (awake9 _).mono ?_
  rintro e w2 ⟨rfl, hb3⟩
  have d0 := (below_cells hb3 w1.heap.size 0 (by simp)).trans Hd0.out
  have Hb3 := Lib.hid (Hb.out.trans (hb3.mono Hb.out.size))
  clear hb3
  go_wp2
  go_ret
  exact ⟨rfl, Hb3.out⟩

set_option maxRecDepth 100000 in
set_option maxHeartbeats 4000000 in
theorem limits_odd_more {w : World} {hz : Nat} (ho : ((hz : Int) % 2) = 1) :
    Calls Try.prog 6 #[.int .u8 hz, .bool true] w fun e w' => e = .returned (.bool true) ∧ Below w.heap.size w w' := by
  have hob : (((hz : Int) % 2) == 1) = true := by simpa using ho
  have hrun := runL (w := w) (h := 2000) netL_c1 netL_2000
  simp only [worldL] at hrun
  have Hrun := Lib.hid hrun
  clear hrun
  go_enter Try.func6, Try.ntmps6
  go_wp2_with (fail)
  refine Hrun.out.mono ?_
  rintro e w1 ⟨al, cl, bm, cm, bw, nw, tt, rfl, hb⟩
  have hb2 : Below w1.heap.size w1 (w1.alloc (.cells #[.slice al 2000 cl, .slice (some ⟨bm, 0, none⟩) 2 cm, .slice (some ⟨bw, 0, none⟩) nw nw, .int .i64 tt] 36)) := (Below.refl _ _).alloc (Nat.le_refl _) _
  have hd0 : (w1.alloc (.cells #[.slice al 2000 cl, .slice (some ⟨bm, 0, none⟩) 2 cm, .slice (some ⟨bw, 0, none⟩) nw nw, .int .i64 tt] 36)).cell? ⟨w1.heap.size, 0, none⟩ = some (.slice al 2000 cl) := by go_simp
  have Hb := Lib.hid (hb.trans (hb2.mono hb.size))
  have Hd0 := Lib.hid hd0
  clear hb hb2 hd0
  go_wp2_with (fail)
  refine (awake9 _).mono ?_
  rintro e w2 ⟨rfl, hb3⟩
  have d0 := (below_cells hb3 w1.heap.size 0 (by simp)).trans Hd0.out
  have Hb3 := Lib.hid (Hb.out.trans (hb3.mono Hb.out.size))
  clear hb3
  go_wp2
  go_ret
  exact ⟨rfl, Hb3.out⟩

theorem limits_law {w : World} {hz : Int} {more : Bool} (uz : (Lit.int .u8 hz).wf = true) : Calls Try.prog 6 #[.int .u8 hz, .bool more] w fun e w' => e = .returned (.bool true) ∧ Below w.heap.size w w' := by
  obtain ⟨hz, rfl, _⟩ := u8_nat uz
  by_cases ho : ((hz : Int) % 2) = 1
  · cases more
    · exact limits_odd_just ho
    · exact limits_odd_more ho
  · cases more
    · exact limits_even_just ho
    · exact limits_even_more ho
end Go.Proofs.Ytfekgcfojhbngaa
