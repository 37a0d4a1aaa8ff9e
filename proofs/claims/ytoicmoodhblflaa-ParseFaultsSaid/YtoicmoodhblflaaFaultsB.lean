/-
  The walk of the law ParseFaults: for all its inputs it returns true.
  Conditions: none.
-/
import Derived.Test.YtoicmoodhblflaaFaultsBase
namespace Go.Proofs.Ytoicmoodhblflaa
open Go.RowKit
set_option linter.unusedVariables false

set_option maxRecDepth 100000 in
set_option maxHeartbeats 1000000 in
theorem faults_5 (h : Nat) (hh : h < 256) (hk : (h : Int) % 14 = ((5 : Nat) : Int)) (w : World) : Calls Try.prog 9 #[.int .u8 (h : Int)] w fun e w' => e = .returned (.bool true) ∧ Below w.heap.size w w' := by
  have hpar : parseL [116, 114, 97, 110, 115, 32, 116, 58, 32, 113, 32, 45, 62, 32, 59] = .error (7, 9) := by rw [parseF_eq]; kernel_rfl
  have hpl : placeL (([116, 114, 97, 110, 115, 32, 116, 58, 32, 113, 32, 45, 62, 32, 59] : List UInt8).take 9) = (1, 10) := by decide +kernel
  obtain ⟨bb, cc, w4, hr, hcc, hB, b4⟩ := run_bytes_of (fw w) { data := #[116, 114, 97, 110, 115, 32, 116, 58, 32, 113, 32, 45, 62, 32, 59] }
  replace hB : BytesAt w4 (some ⟨bb, 0, none⟩) 15 [116, 114, 97, 110, 115, 32, 116, 58, 32, 113, 32, 45, 62, 32, 59] := hB
  replace hcc : 15 ≤ cc := hcc
  replace hr : (convert 9 32 (.string { data := #[116, 114, 97, 110, 115, 32, 116, 58, 32, 113, 32, 45, 62, 32, 59] })).run Try.prog (fw w) = .ok (.slice (some ⟨bb, 0, none⟩) 15 cc) w4 := hr
  have hnet := net_any hB cc hcc (by decide)
  have Hb4 : Hid (Below w.heap.size w w4) := Lib.hid ((fw_below w).trans (b4.mono (fw_below w).size))
  clear hB b4 hcc
  unfold fw at hr
  go_enter Try.func9, Try.ntmps9
  go_wp2_with fail
  refine hnet.mono ?_
  rintro e w5 ⟨v, rfl, hout, hb5⟩
  rcases hout with ⟨er, p, h1, _, rfl⟩ | ⟨n, vp, vt, h1, h2, rfl⟩
  · rw [hpar] at h1
    injection h1 with h1
    injection h1 with h1 h2
    subst h1 h2
    rw [hpl]
    have Hb5 := Lib.hid (Hb4.out.trans (hb5.mono Hb4.out.size))
    clear hnet hb5 hr hpar hpl
    rw [show faultV 7 ((9 : Nat) : Int) (1, 10) = .agg #[.int .i64 7, .int .i64 9, .int .i64 1, .int .i64 10] from rfl]
    have ha := awake6 ((w5.alloc (.cells #[.slice none 0 0, .slice none 0 0] 30)).alloc (.cells #[.int .i64 7, .int .i64 9, .int .i64 1, .int .i64 10] 51))
    go_wp2_with fail
    refine ha.mono ?_
    rintro e w6 ⟨rfl, hb6⟩
    have c0 : w6.cell? ⟨w5.heap.size + 1, 0, none⟩ = some (.int .i64 7) := (below_cells hb6 _ _ (by simp)).trans (by go_simp)
    have c1 : w6.cell? ⟨w5.heap.size + 1, 1, none⟩ = some (.int .i64 9) := (below_cells hb6 _ _ (by simp)).trans (by go_simp)
    have c2 : w6.cell? ⟨w5.heap.size + 1, 2, none⟩ = some (.int .i64 1) := (below_cells hb6 _ _ (by simp)).trans (by go_simp)
    have c3 : w6.cell? ⟨w5.heap.size + 1, 3, none⟩ = some (.int .i64 10) := (below_cells hb6 _ _ (by simp)).trans (by go_simp)
    have hlt : w5.heap.size + 1 < w6.heap.size := by have := hb6.size; simp at this; omega
    have Hb6 := Lib.hid (((Hb5.out.alloc Hb5.out.size _).alloc (by have := Hb5.out.size; simp; omega) _).trans (hb6.mono (by have := Hb5.out.size; simp; omega)))
    clear hb6 ha
    go_wp2
    go_ret
    exact ⟨rfl, Hb6.out⟩
  · rw [hpar] at h1
    cases h1
set_option maxRecDepth 100000 in
set_option maxHeartbeats 1000000 in
theorem faults_6 (h : Nat) (hh : h < 256) (hk : (h : Int) % 14 = ((6 : Nat) : Int)) (w : World) : Calls Try.prog 9 #[.int .u8 (h : Int)] w fun e w' => e = .returned (.bool true) ∧ Below w.heap.size w w' := by
  have hpar : parseL [112, 108, 97, 99, 101, 32, 112, 59, 32, 116, 114, 97, 110, 115, 32, 116, 58, 32, 112, 44, 32, 112, 32, 45, 62, 32, 59] = .error (7, 21) := by rw [parseF_eq]; kernel_rfl
  have hpl : placeL (([112, 108, 97, 99, 101, 32, 112, 59, 32, 116, 114, 97, 110, 115, 32, 116, 58, 32, 112, 44, 32, 112, 32, 45, 62, 32, 59] : List UInt8).take 21) = (1, 22) := by decide +kernel
  obtain ⟨bb, cc, w4, hr, hcc, hB, b4⟩ := run_bytes_of (fw w) { data := #[112, 108, 97, 99, 101, 32, 112, 59, 32, 116, 114, 97, 110, 115, 32, 116, 58, 32, 112, 44, 32, 112, 32, 45, 62, 32, 59] }
  replace hB : BytesAt w4 (some ⟨bb, 0, none⟩) 27 [112, 108, 97, 99, 101, 32, 112, 59, 32, 116, 114, 97, 110, 115, 32, 116, 58, 32, 112, 44, 32, 112, 32, 45, 62, 32, 59] := hB
  replace hcc : 27 ≤ cc := hcc
  replace hr : (convert 9 32 (.string { data := #[112, 108, 97, 99, 101, 32, 112, 59, 32, 116, 114, 97, 110, 115, 32, 116, 58, 32, 112, 44, 32, 112, 32, 45, 62, 32, 59] })).run Try.prog (fw w) = .ok (.slice (some ⟨bb, 0, none⟩) 27 cc) w4 := hr
  have hnet := net_any hB cc hcc (by decide)
  have Hb4 : Hid (Below w.heap.size w w4) := Lib.hid ((fw_below w).trans (b4.mono (fw_below w).size))
  clear hB b4 hcc
  unfold fw at hr
  go_enter Try.func9, Try.ntmps9
  go_wp2_with fail
  refine hnet.mono ?_
  rintro e w5 ⟨v, rfl, hout, hb5⟩
  rcases hout with ⟨er, p, h1, _, rfl⟩ | ⟨n, vp, vt, h1, h2, rfl⟩
  · rw [hpar] at h1
    injection h1 with h1
    injection h1 with h1 h2
    subst h1 h2
    rw [hpl]
    have Hb5 := Lib.hid (Hb4.out.trans (hb5.mono Hb4.out.size))
    clear hnet hb5 hr hpar hpl
    rw [show faultV 7 ((21 : Nat) : Int) (1, 22) = .agg #[.int .i64 7, .int .i64 21, .int .i64 1, .int .i64 22] from rfl]
    have ha := awake6 ((w5.alloc (.cells #[.slice none 0 0, .slice none 0 0] 30)).alloc (.cells #[.int .i64 7, .int .i64 21, .int .i64 1, .int .i64 22] 51))
    go_wp2_with fail
    refine ha.mono ?_
    rintro e w6 ⟨rfl, hb6⟩
    have c0 : w6.cell? ⟨w5.heap.size + 1, 0, none⟩ = some (.int .i64 7) := (below_cells hb6 _ _ (by simp)).trans (by go_simp)
    have c1 : w6.cell? ⟨w5.heap.size + 1, 1, none⟩ = some (.int .i64 21) := (below_cells hb6 _ _ (by simp)).trans (by go_simp)
    have c2 : w6.cell? ⟨w5.heap.size + 1, 2, none⟩ = some (.int .i64 1) := (below_cells hb6 _ _ (by simp)).trans (by go_simp)
    have c3 : w6.cell? ⟨w5.heap.size + 1, 3, none⟩ = some (.int .i64 22) := (below_cells hb6 _ _ (by simp)).trans (by go_simp)
    have hlt : w5.heap.size + 1 < w6.heap.size := by have := hb6.size; simp at this; omega
    have Hb6 := Lib.hid (((Hb5.out.alloc Hb5.out.size _).alloc (by have := Hb5.out.size; simp; omega) _).trans (hb6.mono (by have := Hb5.out.size; simp; omega)))
    clear hb6 ha
    go_wp2
    go_ret
    exact ⟨rfl, Hb6.out⟩
  · rw [hpar] at h1
    cases h1
set_option maxRecDepth 100000 in
set_option maxHeartbeats 1000000 in
theorem faults_7 (h : Nat) (hh : h < 256) (hk : (h : Int) % 14 = ((7 : Nat) : Int)) (w : World) : Calls Try.prog 9 #[.int .u8 (h : Int)] w fun e w' => e = .returned (.bool true) ∧ Below w.heap.size w w' := by
  have hpar : parseL [112, 108, 97, 99, 101, 32, 112, 59, 32, 116, 114, 97, 110, 115, 32, 116, 58, 32, 112, 42, 48, 32, 45, 62, 32, 59] = .error (3, 20) := by rw [parseF_eq]; kernel_rfl
  have hpl : placeL (([112, 108, 97, 99, 101, 32, 112, 59, 32, 116, 114, 97, 110, 115, 32, 116, 58, 32, 112, 42, 48, 32, 45, 62, 32, 59] : List UInt8).take 20) = (1, 21) := by decide +kernel
  obtain ⟨bb, cc, w4, hr, hcc, hB, b4⟩ := run_bytes_of (fw w) { data := #[112, 108, 97, 99, 101, 32, 112, 59, 32, 116, 114, 97, 110, 115, 32, 116, 58, 32, 112, 42, 48, 32, 45, 62, 32, 59] }
  replace hB : BytesAt w4 (some ⟨bb, 0, none⟩) 26 [112, 108, 97, 99, 101, 32, 112, 59, 32, 116, 114, 97, 110, 115, 32, 116, 58, 32, 112, 42, 48, 32, 45, 62, 32, 59] := hB
  replace hcc : 26 ≤ cc := hcc
  replace hr : (convert 9 32 (.string { data := #[112, 108, 97, 99, 101, 32, 112, 59, 32, 116, 114, 97, 110, 115, 32, 116, 58, 32, 112, 42, 48, 32, 45, 62, 32, 59] })).run Try.prog (fw w) = .ok (.slice (some ⟨bb, 0, none⟩) 26 cc) w4 := hr
  have hnet := net_any hB cc hcc (by decide)
  have Hb4 : Hid (Below w.heap.size w w4) := Lib.hid ((fw_below w).trans (b4.mono (fw_below w).size))
  clear hB b4 hcc
  unfold fw at hr
  go_enter Try.func9, Try.ntmps9
  go_wp2_with fail
  refine hnet.mono ?_
  rintro e w5 ⟨v, rfl, hout, hb5⟩
  rcases hout with ⟨er, p, h1, _, rfl⟩ | ⟨n, vp, vt, h1, h2, rfl⟩
  · rw [hpar] at h1
    injection h1 with h1
    injection h1 with h1 h2
    subst h1 h2
    rw [hpl]
    have Hb5 := Lib.hid (Hb4.out.trans (hb5.mono Hb4.out.size))
    clear hnet hb5 hr hpar hpl
    rw [show faultV 3 ((20 : Nat) : Int) (1, 21) = .agg #[.int .i64 3, .int .i64 20, .int .i64 1, .int .i64 21] from rfl]
    have ha := awake6 ((w5.alloc (.cells #[.slice none 0 0, .slice none 0 0] 30)).alloc (.cells #[.int .i64 3, .int .i64 20, .int .i64 1, .int .i64 21] 51))
    go_wp2_with fail
    refine ha.mono ?_
    rintro e w6 ⟨rfl, hb6⟩
    have c0 : w6.cell? ⟨w5.heap.size + 1, 0, none⟩ = some (.int .i64 3) := (below_cells hb6 _ _ (by simp)).trans (by go_simp)
    have c1 : w6.cell? ⟨w5.heap.size + 1, 1, none⟩ = some (.int .i64 20) := (below_cells hb6 _ _ (by simp)).trans (by go_simp)
    have c2 : w6.cell? ⟨w5.heap.size + 1, 2, none⟩ = some (.int .i64 1) := (below_cells hb6 _ _ (by simp)).trans (by go_simp)
    have c3 : w6.cell? ⟨w5.heap.size + 1, 3, none⟩ = some (.int .i64 21) := (below_cells hb6 _ _ (by simp)).trans (by go_simp)
    have hlt : w5.heap.size + 1 < w6.heap.size := by have := hb6.size; simp at this; omega
    have Hb6 := Lib.hid (((Hb5.out.alloc Hb5.out.size _).alloc (by have := Hb5.out.size; simp; omega) _).trans (hb6.mono (by have := Hb5.out.size; simp; omega)))
    clear hb6 ha
    go_wp2
    go_ret
    exact ⟨rfl, Hb6.out⟩
  · rw [hpar] at h1
    cases h1
set_option maxRecDepth 100000 in
set_option maxHeartbeats 1000000 in
theorem faults_8 (h : Nat) (hh : h < 256) (hk : (h : Int) % 14 = ((8 : Nat) : Int)) (w : World) : Calls Try.prog 9 #[.int .u8 (h : Int)] w fun e w' => e = .returned (.bool true) ∧ Below w.heap.size w w' := by
  have hpar : parseL [112, 108, 97, 99, 101, 32, 112, 32, 61, 32, 49, 48, 48, 48, 48, 48, 49, 59] = .error (3, 10) := by rw [parseF_eq]; kernel_rfl
  have hpl : placeL (([112, 108, 97, 99, 101, 32, 112, 32, 61, 32, 49, 48, 48, 48, 48, 48, 49, 59] : List UInt8).take 10) = (1, 11) := by decide +kernel
  obtain ⟨bb, cc, w4, hr, hcc, hB, b4⟩ := run_bytes_of (fw w) { data := #[112, 108, 97, 99, 101, 32, 112, 32, 61, 32, 49, 48, 48, 48, 48, 48, 49, 59] }
  replace hB : BytesAt w4 (some ⟨bb, 0, none⟩) 18 [112, 108, 97, 99, 101, 32, 112, 32, 61, 32, 49, 48, 48, 48, 48, 48, 49, 59] := hB
  replace hcc : 18 ≤ cc := hcc
  replace hr : (convert 9 32 (.string { data := #[112, 108, 97, 99, 101, 32, 112, 32, 61, 32, 49, 48, 48, 48, 48, 48, 49, 59] })).run Try.prog (fw w) = .ok (.slice (some ⟨bb, 0, none⟩) 18 cc) w4 := hr
  have hnet := net_any hB cc hcc (by decide)
  have Hb4 : Hid (Below w.heap.size w w4) := Lib.hid ((fw_below w).trans (b4.mono (fw_below w).size))
  clear hB b4 hcc
  unfold fw at hr
  go_enter Try.func9, Try.ntmps9
  go_wp2_with fail
  refine hnet.mono ?_
  rintro e w5 ⟨v, rfl, hout, hb5⟩
  rcases hout with ⟨er, p, h1, _, rfl⟩ | ⟨n, vp, vt, h1, h2, rfl⟩
  · rw [hpar] at h1
    injection h1 with h1
    injection h1 with h1 h2
    subst h1 h2
    rw [hpl]
    have Hb5 := Lib.hid (Hb4.out.trans (hb5.mono Hb4.out.size))
    clear hnet hb5 hr hpar hpl
    rw [show faultV 3 ((10 : Nat) : Int) (1, 11) = .agg #[.int .i64 3, .int .i64 10, .int .i64 1, .int .i64 11] from rfl]
    have ha := awake6 ((w5.alloc (.cells #[.slice none 0 0, .slice none 0 0] 30)).alloc (.cells #[.int .i64 3, .int .i64 10, .int .i64 1, .int .i64 11] 51))
    go_wp2_with fail
    refine ha.mono ?_
    rintro e w6 ⟨rfl, hb6⟩
    have c0 : w6.cell? ⟨w5.heap.size + 1, 0, none⟩ = some (.int .i64 3) := (below_cells hb6 _ _ (by simp)).trans (by go_simp)
    have c1 : w6.cell? ⟨w5.heap.size + 1, 1, none⟩ = some (.int .i64 10) := (below_cells hb6 _ _ (by simp)).trans (by go_simp)
    have c2 : w6.cell? ⟨w5.heap.size + 1, 2, none⟩ = some (.int .i64 1) := (below_cells hb6 _ _ (by simp)).trans (by go_simp)
    have c3 : w6.cell? ⟨w5.heap.size + 1, 3, none⟩ = some (.int .i64 11) := (below_cells hb6 _ _ (by simp)).trans (by go_simp)
    have hlt : w5.heap.size + 1 < w6.heap.size := by have := hb6.size; simp at this; omega
    have Hb6 := Lib.hid (((Hb5.out.alloc Hb5.out.size _).alloc (by have := Hb5.out.size; simp; omega) _).trans (hb6.mono (by have := Hb5.out.size; simp; omega)))
    clear hb6 ha
    go_wp2
    go_ret
    exact ⟨rfl, Hb6.out⟩
  · rw [hpar] at h1
    cases h1
set_option maxRecDepth 100000 in
set_option maxHeartbeats 1000000 in
theorem faults_9 (h : Nat) (hh : h < 256) (hk : (h : Int) % 14 = ((9 : Nat) : Int)) (w : World) : Calls Try.prog 9 #[.int .u8 (h : Int)] w fun e w' => e = .returned (.bool true) ∧ Below w.heap.size w w' := by
  have hpar : parseL [112, 108, 97, 99, 101, 32, 112, 59, 32, 116, 114, 97, 110, 115, 32, 116, 32, 64, 32, 45, 62, 32, 59] = .error (6, 19) := by rw [parseF_eq]; kernel_rfl
  have hpl : placeL (([112, 108, 97, 99, 101, 32, 112, 59, 32, 116, 114, 97, 110, 115, 32, 116, 32, 64, 32, 45, 62, 32, 59] : List UInt8).take 19) = (1, 20) := by decide +kernel
  obtain ⟨bb, cc, w4, hr, hcc, hB, b4⟩ := run_bytes_of (fw w) { data := #[112, 108, 97, 99, 101, 32, 112, 59, 32, 116, 114, 97, 110, 115, 32, 116, 32, 64, 32, 45, 62, 32, 59] }
  replace hB : BytesAt w4 (some ⟨bb, 0, none⟩) 23 [112, 108, 97, 99, 101, 32, 112, 59, 32, 116, 114, 97, 110, 115, 32, 116, 32, 64, 32, 45, 62, 32, 59] := hB
  replace hcc : 23 ≤ cc := hcc
  replace hr : (convert 9 32 (.string { data := #[112, 108, 97, 99, 101, 32, 112, 59, 32, 116, 114, 97, 110, 115, 32, 116, 32, 64, 32, 45, 62, 32, 59] })).run Try.prog (fw w) = .ok (.slice (some ⟨bb, 0, none⟩) 23 cc) w4 := hr
  have hnet := net_any hB cc hcc (by decide)
  have Hb4 : Hid (Below w.heap.size w w4) := Lib.hid ((fw_below w).trans (b4.mono (fw_below w).size))
  clear hB b4 hcc
  unfold fw at hr
  go_enter Try.func9, Try.ntmps9
  go_wp2_with fail
  refine hnet.mono ?_
  rintro e w5 ⟨v, rfl, hout, hb5⟩
  rcases hout with ⟨er, p, h1, _, rfl⟩ | ⟨n, vp, vt, h1, h2, rfl⟩
  · rw [hpar] at h1
    injection h1 with h1
    injection h1 with h1 h2
    subst h1 h2
    rw [hpl]
    have Hb5 := Lib.hid (Hb4.out.trans (hb5.mono Hb4.out.size))
    clear hnet hb5 hr hpar hpl
    rw [show faultV 6 ((19 : Nat) : Int) (1, 20) = .agg #[.int .i64 6, .int .i64 19, .int .i64 1, .int .i64 20] from rfl]
    have ha := awake6 ((w5.alloc (.cells #[.slice none 0 0, .slice none 0 0] 30)).alloc (.cells #[.int .i64 6, .int .i64 19, .int .i64 1, .int .i64 20] 51))
    go_wp2_with fail
    refine ha.mono ?_
    rintro e w6 ⟨rfl, hb6⟩
    have c0 : w6.cell? ⟨w5.heap.size + 1, 0, none⟩ = some (.int .i64 6) := (below_cells hb6 _ _ (by simp)).trans (by go_simp)
    have c1 : w6.cell? ⟨w5.heap.size + 1, 1, none⟩ = some (.int .i64 19) := (below_cells hb6 _ _ (by simp)).trans (by go_simp)
    have c2 : w6.cell? ⟨w5.heap.size + 1, 2, none⟩ = some (.int .i64 1) := (below_cells hb6 _ _ (by simp)).trans (by go_simp)
    have c3 : w6.cell? ⟨w5.heap.size + 1, 3, none⟩ = some (.int .i64 20) := (below_cells hb6 _ _ (by simp)).trans (by go_simp)
    have hlt : w5.heap.size + 1 < w6.heap.size := by have := hb6.size; simp at this; omega
    have Hb6 := Lib.hid (((Hb5.out.alloc Hb5.out.size _).alloc (by have := Hb5.out.size; simp; omega) _).trans (hb6.mono (by have := Hb5.out.size; simp; omega)))
    clear hb6 ha
    go_wp2
    go_ret
    exact ⟨rfl, Hb6.out⟩
  · rw [hpar] at h1
    cases h1
end Go.Proofs.Ytoicmoodhblflaa
