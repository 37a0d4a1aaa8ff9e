/-
  The walk of the law ParseFaults: for all its inputs it returns true.
  Conditions: none.
-/
import Derived.Test.YtoicmoodhblflaaFaultsBase
namespace Go.Proofs.Ytoicmoodhblflaa
open Go.RowKit
set_option linter.unusedVariables false

set_option maxRecDepth 100000 in
set_option maxHeartbeats 1000000 in
theorem faults_0 (h : Nat) (hh : h < 256) (hk : (h : Int) % 14 = ((0 : Nat) : Int)) (w : World) : Calls Try.prog 9 #[.int .u8 (h : Int)] w fun e w' => e = .returned (.bool true) ∧ Below w.heap.size w w' := by
  have hpar : parseL [112, 108, 97, 99, 32, 112, 59] = .error (6, 0) := by rw [parseF_eq]; kernel_rfl
  have hpl : placeL (([112, 108, 97, 99, 32, 112, 59] : List UInt8).take 0) = (1, 1) := by decide +kernel
  obtain ⟨bb, cc, w4, hr, hcc, hB, b4⟩ := run_bytes_of (fw w) { data := #[112, 108, 97, 99, 32, 112, 59] }
  replace hB : BytesAt w4 (some ⟨bb, 0, none⟩) 7 [112, 108, 97, 99, 32, 112, 59] := hB
  replace hcc : 7 ≤ cc := hcc
  replace hr : (convert 9 32 (.string { data := #[112, 108, 97, 99, 32, 112, 59] })).run Try.prog (fw w) = .ok (.slice (some ⟨bb, 0, none⟩) 7 cc) w4 := hr
  have hnet := net_any hB cc hcc (by decide)
  have Hb4 : Hid (Below w.heap.size w w4) := Lib.hid ((fw_below w).trans (b4.mono (fw_below w).size))
  clear hB b4 hcc
  unfold fw at hr
  go_enter Try.func9, Try.ntmps9
  go_wp2_with fail
  refine hnet.mono ?_
  rintro e w5 ⟨v, rfl, hout, hb5⟩
  rcases hout with ⟨er, p, h1, _, rfl⟩ | ⟨n, vp, vt, h1, h2, rfl⟩
  · rw [hpar] at h1
    injection h1 with h1
    injection h1 with h1 h2
    subst h1 h2
    rw [hpl]
    have Hb5 := Lib.hid (Hb4.out.trans (hb5.mono Hb4.out.size))
    clear hnet hb5 hr hpar hpl
    rw [show faultV 6 ((0 : Nat) : Int) (1, 1) = .agg #[.int .i64 6, .int .i64 0, .int .i64 1, .int .i64 1] from rfl]
    have ha := awake6 ((w5.alloc (.cells #[.slice none 0 0, .slice none 0 0] 30)).alloc (.cells #[.int .i64 6, .int .i64 0, .int .i64 1, .int .i64 1] 51))
    go_wp2_with fail
    refine ha.mono ?_
    rintro e w6 ⟨rfl, hb6⟩
    have c0 : w6.cell? ⟨w5.heap.size + 1, 0, none⟩ = some (.int .i64 6) := (below_cells hb6 _ _ (by simp)).trans (by go_simp)
    have c1 : w6.cell? ⟨w5.heap.size + 1, 1, none⟩ = some (.int .i64 0) := (below_cells hb6 _ _ (by simp)).trans (by go_simp)
    have c2 : w6.cell? ⟨w5.heap.size + 1, 2, none⟩ = some (.int .i64 1) := (below_cells hb6 _ _ (by simp)).trans (by go_simp)
    have c3 : w6.cell? ⟨w5.heap.size + 1, 3, none⟩ = some (.int .i64 1) := (below_cells hb6 _ _ (by simp)).trans (by go_simp)
    have hlt : w5.heap.size + 1 < w6.heap.size := by have := hb6.size; simp at this; omega
    have Hb6 := Lib.hid (((Hb5.out.alloc Hb5.out.size _).alloc (by have := Hb5.out.size; simp; omega) _).trans (hb6.mono (by have := Hb5.out.size; simp; omega)))
    clear hb6 ha
    go_wp2
    go_ret
    exact ⟨rfl, Hb6.out⟩
  · rw [hpar] at h1
    cases h1
set_option maxRecDepth 100000 in
set_option maxHeartbeats 1000000 in
theorem faults_1 (h : Nat) (hh : h < 256) (hk : (h : Int) % 14 = ((1 : Nat) : Int)) (w : World) : Calls Try.prog 9 #[.int .u8 (h : Int)] w fun e w' => e = .returned (.bool true) ∧ Below w.heap.size w w' := by
  have hpar : parseL [112, 108, 97, 99, 101, 32, 112] = .error (6, 7) := by rw [parseF_eq]; kernel_rfl
  have hpl : placeL (([112, 108, 97, 99, 101, 32, 112] : List UInt8).take 7) = (1, 8) := by decide +kernel
  obtain ⟨bb, cc, w4, hr, hcc, hB, b4⟩ := run_bytes_of (fw w) { data := #[112, 108, 97, 99, 101, 32, 112] }
  replace hB : BytesAt w4 (some ⟨bb, 0, none⟩) 7 [112, 108, 97, 99, 101, 32, 112] := hB
  replace hcc : 7 ≤ cc := hcc
  replace hr : (convert 9 32 (.string { data := #[112, 108, 97, 99, 101, 32, 112] })).run Try.prog (fw w) = .ok (.slice (some ⟨bb, 0, none⟩) 7 cc) w4 := hr
  have hnet := net_any hB cc hcc (by decide)
  have Hb4 : Hid (Below w.heap.size w w4) := Lib.hid ((fw_below w).trans (b4.mono (fw_below w).size))
  clear hB b4 hcc
  unfold fw at hr
  go_enter Try.func9, Try.ntmps9
  go_wp2_with fail
  refine hnet.mono ?_
  rintro e w5 ⟨v, rfl, hout, hb5⟩
  rcases hout with ⟨er, p, h1, _, rfl⟩ | ⟨n, vp, vt, h1, h2, rfl⟩
  · rw [hpar] at h1
    injection h1 with h1
    injection h1 with h1 h2
    subst h1 h2
    rw [hpl]
    have Hb5 := Lib.hid (Hb4.out.trans (hb5.mono Hb4.out.size))
    clear hnet hb5 hr hpar hpl
    rw [show faultV 6 ((7 : Nat) : Int) (1, 8) = .agg #[.int .i64 6, .int .i64 7, .int .i64 1, .int .i64 8] from rfl]
    have ha := awake6 ((w5.alloc (.cells #[.slice none 0 0, .slice none 0 0] 30)).alloc (.cells #[.int .i64 6, .int .i64 7, .int .i64 1, .int .i64 8] 51))
    go_wp2_with fail
    refine ha.mono ?_
    rintro e w6 ⟨rfl, hb6⟩
    have c0 : w6.cell? ⟨w5.heap.size + 1, 0, none⟩ = some (.int .i64 6) := (below_cells hb6 _ _ (by simp)).trans (by go_simp)
    have c1 : w6.cell? ⟨w5.heap.size + 1, 1, none⟩ = some (.int .i64 7) := (below_cells hb6 _ _ (by simp)).trans (by go_simp)
    have c2 : w6.cell? ⟨w5.heap.size + 1, 2, none⟩ = some (.int .i64 1) := (below_cells hb6 _ _ (by simp)).trans (by go_simp)
    have c3 : w6.cell? ⟨w5.heap.size + 1, 3, none⟩ = some (.int .i64 8) := (below_cells hb6 _ _ (by simp)).trans (by go_simp)
    have hlt : w5.heap.size + 1 < w6.heap.size := by have := hb6.size; simp at this; omega
    have Hb6 := Lib.hid (((Hb5.out.alloc Hb5.out.size _).alloc (by have := Hb5.out.size; simp; omega) _).trans (hb6.mono (by have := Hb5.out.size; simp; omega)))
    clear hb6 ha
    go_wp2
    go_ret
    exact ⟨rfl, Hb6.out⟩
  · rw [hpar] at h1
    cases h1
set_option maxRecDepth 100000 in
set_option maxHeartbeats 1000000 in
theorem faults_2 (h : Nat) (hh : h < 256) (hk : (h : Int) % 14 = ((2 : Nat) : Int)) (w : World) : Calls Try.prog 9 #[.int .u8 (h : Int)] w fun e w' => e = .returned (.bool true) ∧ Below w.heap.size w w' := by
  have hpar : parseL [112, 108, 97, 99, 101, 32, 112, 32, 61, 32, 120, 59] = .error (6, 10) := by rw [parseF_eq]; kernel_rfl
  have hpl : placeL (([112, 108, 97, 99, 101, 32, 112, 32, 61, 32, 120, 59] : List UInt8).take 10) = (1, 11) := by decide +kernel
  obtain ⟨bb, cc, w4, hr, hcc, hB, b4⟩ := run_bytes_of (fw w) { data := #[112, 108, 97, 99, 101, 32, 112, 32, 61, 32, 120, 59] }
  replace hB : BytesAt w4 (some ⟨bb, 0, none⟩) 12 [112, 108, 97, 99, 101, 32, 112, 32, 61, 32, 120, 59] := hB
  replace hcc : 12 ≤ cc := hcc
  replace hr : (convert 9 32 (.string { data := #[112, 108, 97, 99, 101, 32, 112, 32, 61, 32, 120, 59] })).run Try.prog (fw w) = .ok (.slice (some ⟨bb, 0, none⟩) 12 cc) w4 := hr
  have hnet := net_any hB cc hcc (by decide)
  have Hb4 : Hid (Below w.heap.size w w4) := Lib.hid ((fw_below w).trans (b4.mono (fw_below w).size))
  clear hB b4 hcc
  unfold fw at hr
  go_enter Try.func9, Try.ntmps9
  go_wp2_with fail
  refine hnet.mono ?_
  rintro e w5 ⟨v, rfl, hout, hb5⟩
  rcases hout with ⟨er, p, h1, _, rfl⟩ | ⟨n, vp, vt, h1, h2, rfl⟩
  · rw [hpar] at h1
    injection h1 with h1
    injection h1 with h1 h2
    subst h1 h2
    rw [hpl]
    have Hb5 := Lib.hid (Hb4.out.trans (hb5.mono Hb4.out.size))
    clear hnet hb5 hr hpar hpl
    rw [show faultV 6 ((10 : Nat) : Int) (1, 11) = .agg #[.int .i64 6, .int .i64 10, .int .i64 1, .int .i64 11] from rfl]
    have ha := awake6 ((w5.alloc (.cells #[.slice none 0 0, .slice none 0 0] 30)).alloc (.cells #[.int .i64 6, .int .i64 10, .int .i64 1, .int .i64 11] 51))
    go_wp2_with fail
    refine ha.mono ?_
    rintro e w6 ⟨rfl, hb6⟩
    have c0 : w6.cell? ⟨w5.heap.size + 1, 0, none⟩ = some (.int .i64 6) := (below_cells hb6 _ _ (by simp)).trans (by go_simp)
    have c1 : w6.cell? ⟨w5.heap.size + 1, 1, none⟩ = some (.int .i64 10) := (below_cells hb6 _ _ (by simp)).trans (by go_simp)
    have c2 : w6.cell? ⟨w5.heap.size + 1, 2, none⟩ = some (.int .i64 1) := (below_cells hb6 _ _ (by simp)).trans (by go_simp)
    have c3 : w6.cell? ⟨w5.heap.size + 1, 3, none⟩ = some (.int .i64 11) := (below_cells hb6 _ _ (by simp)).trans (by go_simp)
    have hlt : w5.heap.size + 1 < w6.heap.size := by have := hb6.size; simp at this; omega
    have Hb6 := Lib.hid (((Hb5.out.alloc Hb5.out.size _).alloc (by have := Hb5.out.size; simp; omega) _).trans (hb6.mono (by have := Hb5.out.size; simp; omega)))
    clear hb6 ha
    go_wp2
    go_ret
    exact ⟨rfl, Hb6.out⟩
  · rw [hpar] at h1
    cases h1
set_option maxRecDepth 100000 in
set_option maxHeartbeats 1000000 in
theorem faults_3 (h : Nat) (hh : h < 256) (hk : (h : Int) % 14 = ((3 : Nat) : Int)) (w : World) : Calls Try.prog 9 #[.int .u8 (h : Int)] w fun e w' => e = .returned (.bool true) ∧ Below w.heap.size w w' := by
  have hpar : parseL [112, 108, 97, 99, 101, 32, 112, 59, 32, 112, 108, 97, 99, 101, 32, 112, 59] = .error (7, 15) := by rw [parseF_eq]; kernel_rfl
  have hpl : placeL (([112, 108, 97, 99, 101, 32, 112, 59, 32, 112, 108, 97, 99, 101, 32, 112, 59] : List UInt8).take 15) = (1, 16) := by decide +kernel
  obtain ⟨bb, cc, w4, hr, hcc, hB, b4⟩ := run_bytes_of (fw w) { data := #[112, 108, 97, 99, 101, 32, 112, 59, 32, 112, 108, 97, 99, 101, 32, 112, 59] }
  replace hB : BytesAt w4 (some ⟨bb, 0, none⟩) 17 [112, 108, 97, 99, 101, 32, 112, 59, 32, 112, 108, 97, 99, 101, 32, 112, 59] := hB
  replace hcc : 17 ≤ cc := hcc
  replace hr : (convert 9 32 (.string { data := #[112, 108, 97, 99, 101, 32, 112, 59, 32, 112, 108, 97, 99, 101, 32, 112, 59] })).run Try.prog (fw w) = .ok (.slice (some ⟨bb, 0, none⟩) 17 cc) w4 := hr
  have hnet := net_any hB cc hcc (by decide)
  have Hb4 : Hid (Below w.heap.size w w4) := Lib.hid ((fw_below w).trans (b4.mono (fw_below w).size))
  clear hB b4 hcc
  unfold fw at hr
  go_enter Try.func9, Try.ntmps9
  go_wp2_with fail
  refine hnet.mono ?_
  rintro e w5 ⟨v, rfl, hout, hb5⟩
  rcases hout with ⟨er, p, h1, _, rfl⟩ | ⟨n, vp, vt, h1, h2, rfl⟩
  · rw [hpar] at h1
    injection h1 with h1
    injection h1 with h1 h2
    subst h1 h2
    rw [hpl]
    have Hb5 := Lib.hid (Hb4.out.trans (hb5.mono Hb4.out.size))
    clear hnet hb5 hr hpar hpl
    rw [show faultV 7 ((15 : Nat) : Int) (1, 16) = .agg #[.int .i64 7, .int .i64 15, .int .i64 1, .int .i64 16] from rfl]
    have ha := awake6 ((w5.alloc (.cells #[.slice none 0 0, .slice none 0 0] 30)).alloc (.cells #[.int .i64 7, .int .i64 15, .int .i64 1, .int .i64 16] 51))
    go_wp2_with fail
    refine ha.mono ?_
    rintro e w6 ⟨rfl, hb6⟩
    have c0 : w6.cell? ⟨w5.heap.size + 1, 0, none⟩ = some (.int .i64 7) := (below_cells hb6 _ _ (by simp)).trans (by go_simp)
    have c1 : w6.cell? ⟨w5.heap.size + 1, 1, none⟩ = some (.int .i64 15) := (below_cells hb6 _ _ (by simp)).trans (by go_simp)
    have c2 : w6.cell? ⟨w5.heap.size + 1, 2, none⟩ = some (.int .i64 1) := (below_cells hb6 _ _ (by simp)).trans (by go_simp)
    have c3 : w6.cell? ⟨w5.heap.size + 1, 3, none⟩ = some (.int .i64 16) := (below_cells hb6 _ _ (by simp)).trans (by go_simp)
    have hlt : w5.heap.size + 1 < w6.heap.size := by have := hb6.size; simp at this; omega
    have Hb6 := Lib.hid (((Hb5.out.alloc Hb5.out.size _).alloc (by have := Hb5.out.size; simp; omega) _).trans (hb6.mono (by have := Hb5.out.size; simp; omega)))
    clear hb6 ha
    go_wp2
    go_ret
    exact ⟨rfl, Hb6.out⟩
  · rw [hpar] at h1
    cases h1
set_option maxRecDepth 100000 in
set_option maxHeartbeats 1000000 in
theorem faults_4 (h : Nat) (hh : h < 256) (hk : (h : Int) % 14 = ((4 : Nat) : Int)) (w : World) : Calls Try.prog 9 #[.int .u8 (h : Int)] w fun e w' => e = .returned (.bool true) ∧ Below w.heap.size w w' := by
  have hpar : parseL [112, 108, 97, 99, 101, 32, 112, 59, 32, 116, 114, 97, 110, 115, 32, 112, 58, 32, 45, 62, 32, 59] = .error (7, 15) := by rw [parseF_eq]; kernel_rfl
  have hpl : placeL (([112, 108, 97, 99, 101, 32, 112, 59, 32, 116, 114, 97, 110, 115, 32, 112, 58, 32, 45, 62, 32, 59] : List UInt8).take 15) = (1, 16) := by decide +kernel
  obtain ⟨bb, cc, w4, hr, hcc, hB, b4⟩ := run_bytes_of (fw w) { data := #[112, 108, 97, 99, 101, 32, 112, 59, 32, 116, 114, 97, 110, 115, 32, 112, 58, 32, 45, 62, 32, 59] }
  replace hB : BytesAt w4 (some ⟨bb, 0, none⟩) 22 [112, 108, 97, 99, 101, 32, 112, 59, 32, 116, 114, 97, 110, 115, 32, 112, 58, 32, 45, 62, 32, 59] := hB
  replace hcc : 22 ≤ cc := hcc
  replace hr : (convert 9 32 (.string { data := #[112, 108, 97, 99, 101, 32, 112, 59, 32, 116, 114, 97, 110, 115, 32, 112, 58, 32, 45, 62, 32, 59] })).run Try.prog (fw w) = .ok (.slice (some ⟨bb, 0, none⟩) 22 cc) w4 := hr
  have hnet := net_any hB cc hcc (by decide)
  have Hb4 : Hid (Below w.heap.size w w4) := Lib.hid ((fw_below w).trans (b4.mono (fw_below w).size))
  clear hB b4 hcc
  unfold fw at hr
  go_enter Try.func9, Try.ntmps9
  go_wp2_with fail
  refine hnet.mono ?_
  rintro e w5 ⟨v, rfl, hout, hb5⟩
  rcases hout with ⟨er, p, h1, _, rfl⟩ | ⟨n, vp, vt, h1, h2, rfl⟩
  · rw [hpar] at h1
    injection h1 with h1
    injection h1 with h1 h2
    subst h1 h2
    rw [hpl]
    have Hb5 := Lib.hid (Hb4.out.trans (hb5.mono Hb4.out.size))
    clear hnet hb5 hr hpar hpl
    rw [show faultV 7 ((15 : Nat) : Int) (1, 16) = .agg #[.int .i64 7, .int .i64 15, .int .i64 1, .int .i64 16] from rfl]
    have ha := awake6 ((w5.alloc (.cells #[.slice none 0 0, .slice none 0 0] 30)).alloc (.cells #[.int .i64 7, .int .i64 15, .int .i64 1, .int .i64 16] 51))
    go_wp2_with fail
    refine ha.mono ?_
    rintro e w6 ⟨rfl, hb6⟩
    have c0 : w6.cell? ⟨w5.heap.size + 1, 0, none⟩ = some (.int .i64 7) := (below_cells hb6 _ _ (by simp)).trans (by go_simp)
    have c1 : w6.cell? ⟨w5.heap.size + 1, 1, none⟩ = some (.int .i64 15) := (below_cells hb6 _ _ (by simp)).trans (by go_simp)
    have c2 : w6.cell? ⟨w5.heap.size + 1, 2, none⟩ = some (.int .i64 1) := (below_cells hb6 _ _ (by simp)).trans (by go_simp)
    have c3 : w6.cell? ⟨w5.heap.size + 1, 3, none⟩ = some (.int .i64 16) := (below_cells hb6 _ _ (by simp)).trans (by go_simp)
    have hlt : w5.heap.size + 1 < w6.heap.size := by have := hb6.size; simp at this; omega
    have Hb6 := Lib.hid (((Hb5.out.alloc Hb5.out.size _).alloc (by have := Hb5.out.size; simp; omega) _).trans (hb6.mono (by have := Hb5.out.size; simp; omega)))
    clear hb6 ha
    go_wp2
    go_ret
    exact ⟨rfl, Hb6.out⟩
  · rw [hpar] at h1
    cases h1
end Go.Proofs.Ytoicmoodhblflaa
