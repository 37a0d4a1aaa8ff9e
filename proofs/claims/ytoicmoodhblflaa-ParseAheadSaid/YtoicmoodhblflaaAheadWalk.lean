/-
  The walk of the law ParseAhead: for all its inputs it returns true.
  Conditions: none.
-/
import Derived.Test.YtoicmoodhblflaaPUse
namespace Go.Proofs.Ytoicmoodhblflaa
open Go.RowKit
set_option linter.unusedVariables false

def netB : Nt := ⟨[⟨bs [112], 0⟩, ⟨bs [113], 2⟩], [⟨bs [116], 0, 0, [(1, 1)], [], [(0, 1)]⟩]⟩
def netC : Nt := ⟨[⟨bs [113], 2⟩, ⟨bs [112], 0⟩], [⟨bs [116], 0, 0, [(0, 1)], [], [(1, 1)]⟩]⟩
theorem sameBC : sameN netB netC = false := by kernel_rfl

set_option maxRecDepth 100000 in
set_option maxHeartbeats 2000000 in
theorem ahead_0 (w : World) : Calls Try.prog 11 #[.bool false] w fun e w' => e = .returned (.bool true) ∧ Below w.heap.size w w' := by
  obtain ⟨bb, cc, w1, hr, hcc, hB, b1⟩ := run_bytes_of w { data := #[116, 114, 97, 110, 115, 32, 116, 58, 32, 113, 32, 45, 62, 32, 112, 59, 32, 112, 108, 97, 99, 101, 32, 112, 59, 32, 112, 108, 97, 99, 101, 32, 113, 32, 61, 32, 50, 59] }
  replace hB : BytesAt w1 (some ⟨bb, 0, none⟩) 38 [116, 114, 97, 110, 115, 32, 116, 58, 32, 113, 32, 45, 62, 32, 112, 59, 32, 112, 108, 97, 99, 101, 32, 112, 59, 32, 112, 108, 97, 99, 101, 32, 113, 32, 61, 32, 50, 59] := hB
  replace hcc : 38 ≤ cc := hcc
  replace hr : (convert 9 32 (.string { data := #[116, 114, 97, 110, 115, 32, 116, 58, 32, 113, 32, 45, 62, 32, 112, 59, 32, 112, 108, 97, 99, 101, 32, 112, 59, 32, 112, 108, 97, 99, 101, 32, 113, 32, 61, 32, 50, 59] })).run Try.prog w = .ok (.slice (some ⟨bb, 0, none⟩) 38 cc) w1 := hr
  have hn1 := net_ok (N := netB) hB cc hcc (by decide) (by rw [parseF_eq]; kernel_rfl)
  have Hb1 := Lib.hid b1
  clear hB hcc b1
  go_enter Try.func11, Try.ntmps11
  go_wp2_with fail
  refine hn1.mono ?_
  rintro e v1 ⟨a1, n1, c1, x1, m1, y1, rfl, hl1, hm1, hA1, hb1⟩
  have bw1 : Below v1.heap.size v1 ((v1.alloc (.cells #[.slice a1 n1 c1, .slice x1 m1 y1] 30)).alloc (.cells #[.int .i64 0, .int .i64 0, .int .i64 0, .int .i64 0] 51)) := ((Below.refl _ v1).alloc (Nat.le_refl _) _).alloc (by simp) _
  have hR1 := Res.start v1 (.slice a1 n1 c1) (.slice x1 m1 y1)
  have hS1 := hb1.trans (bw1.mono hb1.size)
  have HA1 := Lib.hid (hA1.below bw1)
  have Hl1 := Lib.hid hl1
  have Hm1 := Lib.hid hm1
  clear hb1 hA1 hl1 hm1 bw1 hn1
  go_upto_region 5 with (fail)
  revert hR1 hS1 HA1
  generalize (v1.alloc (.cells #[.slice a1 n1 c1, .slice x1 m1 y1] 30)).alloc (.cells #[.int .i64 0, .int .i64 0, .int .i64 0, .int .i64 0] 51) = W1
  intro hR1 hS1 HA1
  have HR1 := Lib.hid hR1
  have HB1 := Lib.hid (Hb1.out.trans (hS1.mono Hb1.out.size))
  clear hR1 hS1 hr
  have kc := Lib.run_convert_bytes_const (P := Try.prog) W1 32 5 #[.int .u8 112, .int .u8 108, .int .u8 97, .int .u8 99, .int .u8 101, .int .u8 32, .int .u8 112, .int .u8 59, .int .u8 32, .int .u8 112, .int .u8 108, .int .u8 97, .int .u8 99, .int .u8 101, .int .u8 32, .int .u8 113, .int .u8 32, .int .u8 61, .int .u8 32, .int .u8 50, .int .u8 59, .int .u8 32, .int .u8 116, .int .u8 114, .int .u8 97, .int .u8 110, .int .u8 115, .int .u8 32, .int .u8 116, .int .u8 58, .int .u8 32, .int .u8 113, .int .u8 32, .int .u8 45, .int .u8 62, .int .u8 32, .int .u8 112, .int .u8 59] 38 38 Try.underlying32 Try.underlying5
  have hb0 : Below W1.heap.size W1 (W1.alloc (.cells #[.int .u8 112, .int .u8 108, .int .u8 97, .int .u8 99, .int .u8 101, .int .u8 32, .int .u8 112, .int .u8 59, .int .u8 32, .int .u8 112, .int .u8 108, .int .u8 97, .int .u8 99, .int .u8 101, .int .u8 32, .int .u8 113, .int .u8 32, .int .u8 61, .int .u8 32, .int .u8 50, .int .u8 59, .int .u8 32, .int .u8 116, .int .u8 114, .int .u8 97, .int .u8 110, .int .u8 115, .int .u8 32, .int .u8 116, .int .u8 58, .int .u8 32, .int .u8 113, .int .u8 32, .int .u8 45, .int .u8 62, .int .u8 32, .int .u8 112, .int .u8 59] 5 (38, 39))) := (Below.refl _ W1).alloc (Nat.le_refl _) _
  have hn2 := net_ok (N := netB) (constBytes W1 [112, 108, 97, 99, 101, 32, 112, 59, 32, 112, 108, 97, 99, 101, 32, 113, 32, 61, 32, 50, 59, 32, 116, 114, 97, 110, 115, 32, 116, 58, 32, 113, 32, 45, 62, 32, 112, 59] (38, 39) #[.int .u8 112, .int .u8 108, .int .u8 97, .int .u8 99, .int .u8 101, .int .u8 32, .int .u8 112, .int .u8 59, .int .u8 32, .int .u8 112, .int .u8 108, .int .u8 97, .int .u8 99, .int .u8 101, .int .u8 32, .int .u8 113, .int .u8 32, .int .u8 61, .int .u8 32, .int .u8 50, .int .u8 59, .int .u8 32, .int .u8 116, .int .u8 114, .int .u8 97, .int .u8 110, .int .u8 115, .int .u8 32, .int .u8 116, .int .u8 58, .int .u8 32, .int .u8 113, .int .u8 32, .int .u8 45, .int .u8 62, .int .u8 32, .int .u8 112, .int .u8 59] rfl 5) 38 (by decide) (by decide) (by rw [parseF_eq]; kernel_rfl)
  go_wp2_with fail
  refine hn2.mono ?_
  rintro e v2 ⟨a2, n2, c2, x2, m2, y2, rfl, hl2, hm2, hA2, hb2⟩
  have bw2 : Below v2.heap.size v2 ((v2.alloc (.cells #[.slice a2 n2 c2, .slice x2 m2 y2] 30)).alloc (.cells #[.int .i64 0, .int .i64 0, .int .i64 0, .int .i64 0] 51)) := ((Below.refl _ v2).alloc (Nat.le_refl _) _).alloc (by simp) _
  have hR2 := Res.start v2 (.slice a2 n2 c2) (.slice x2 m2 y2)
  have hS2 := hb2.trans (bw2.mono hb2.size)
  have HA2 := Lib.hid (hA2.below bw2)
  have Hl2 := Lib.hid hl2
  have Hm2 := Lib.hid hm2
  clear hb2 hA2 hl2 hm2 bw2 hn2
  go_upto_region 6 with (fail)
  revert hR2 hS2 HA2
  generalize (v2.alloc (.cells #[.slice a2 n2 c2, .slice x2 m2 y2] 30)).alloc (.cells #[.int .i64 0, .int .i64 0, .int .i64 0, .int .i64 0] 51) = W2
  intro hR2 hS2 HA2
  have HR2 := Lib.hid hR2
  have hup2 := hb0.trans (hS2.mono hb0.size)
  have HB2 := Lib.hid (HB1.out.trans (hup2.mono HB1.out.size))
  have HR1b := Lib.hid (HR1.out.up hup2)
  have HA1b := Lib.hid (HA1.out.below hup2)
  clear hR2 hS2 hup2 kc hb0 HR1 HA1 HB1
  have kc := Lib.run_convert_bytes_const (P := Try.prog) W2 32 5 #[.int .u8 112, .int .u8 108, .int .u8 97, .int .u8 99, .int .u8 101, .int .u8 32, .int .u8 113, .int .u8 32, .int .u8 61, .int .u8 32, .int .u8 50, .int .u8 59, .int .u8 32, .int .u8 116, .int .u8 114, .int .u8 97, .int .u8 110, .int .u8 115, .int .u8 32, .int .u8 116, .int .u8 58, .int .u8 32, .int .u8 113, .int .u8 32, .int .u8 45, .int .u8 62, .int .u8 32, .int .u8 112, .int .u8 59, .int .u8 32, .int .u8 112, .int .u8 108, .int .u8 97, .int .u8 99, .int .u8 101, .int .u8 32, .int .u8 112, .int .u8 59] 38 38 Try.underlying32 Try.underlying5
  have hb0 : Below W2.heap.size W2 (W2.alloc (.cells #[.int .u8 112, .int .u8 108, .int .u8 97, .int .u8 99, .int .u8 101, .int .u8 32, .int .u8 113, .int .u8 32, .int .u8 61, .int .u8 32, .int .u8 50, .int .u8 59, .int .u8 32, .int .u8 116, .int .u8 114, .int .u8 97, .int .u8 110, .int .u8 115, .int .u8 32, .int .u8 116, .int .u8 58, .int .u8 32, .int .u8 113, .int .u8 32, .int .u8 45, .int .u8 62, .int .u8 32, .int .u8 112, .int .u8 59, .int .u8 32, .int .u8 112, .int .u8 108, .int .u8 97, .int .u8 99, .int .u8 101, .int .u8 32, .int .u8 112, .int .u8 59] 5 (38, 39))) := (Below.refl _ W2).alloc (Nat.le_refl _) _
  have hn3 := net_ok (N := netC) (constBytes W2 [112, 108, 97, 99, 101, 32, 113, 32, 61, 32, 50, 59, 32, 116, 114, 97, 110, 115, 32, 116, 58, 32, 113, 32, 45, 62, 32, 112, 59, 32, 112, 108, 97, 99, 101, 32, 112, 59] (38, 39) #[.int .u8 112, .int .u8 108, .int .u8 97, .int .u8 99, .int .u8 101, .int .u8 32, .int .u8 113, .int .u8 32, .int .u8 61, .int .u8 32, .int .u8 50, .int .u8 59, .int .u8 32, .int .u8 116, .int .u8 114, .int .u8 97, .int .u8 110, .int .u8 115, .int .u8 32, .int .u8 116, .int .u8 58, .int .u8 32, .int .u8 113, .int .u8 32, .int .u8 45, .int .u8 62, .int .u8 32, .int .u8 112, .int .u8 59, .int .u8 32, .int .u8 112, .int .u8 108, .int .u8 97, .int .u8 99, .int .u8 101, .int .u8 32, .int .u8 112, .int .u8 59] rfl 5) 38 (by decide) (by decide) (by rw [parseF_eq]; kernel_rfl)
  go_wp2_with fail
  refine hn3.mono ?_
  rintro e v3 ⟨a3, n3, c3, x3, m3, y3, rfl, hl3, hm3, hA3, hb3⟩
  have bw3 : Below v3.heap.size v3 ((v3.alloc (.cells #[.slice a3 n3 c3, .slice x3 m3 y3] 30)).alloc (.cells #[.int .i64 0, .int .i64 0, .int .i64 0, .int .i64 0] 51)) := ((Below.refl _ v3).alloc (Nat.le_refl _) _).alloc (by simp) _
  have hR3 := Res.start v3 (.slice a3 n3 c3) (.slice x3 m3 y3)
  have hS3 := hb3.trans (bw3.mono hb3.size)
  have HA3 := Lib.hid (hA3.below bw3)
  have Hl3 := Lib.hid hl3
  have Hm3 := Lib.hid hm3
  clear hb3 hA3 hl3 hm3 bw3 hn3
  go_upto_region 7 with (fail)
  revert hR3 hS3 HA3
  generalize (v3.alloc (.cells #[.slice a3 n3 c3, .slice x3 m3 y3] 30)).alloc (.cells #[.int .i64 0, .int .i64 0, .int .i64 0, .int .i64 0] 51) = W3
  intro hR3 hS3 HA3
  have HR3 := Lib.hid hR3
  have hup3 := hb0.trans (hS3.mono hb0.size)
  have ha := awake6 W3
  have HB3 := Lib.hid (HB2.out.trans (hup3.mono HB2.out.size))
  have HR1c := Lib.hid (HR1b.out.up hup3)
  have HA1c := Lib.hid (HA1b.out.below hup3)
  have HR2c := Lib.hid (HR2.out.up hup3)
  have HA2c := Lib.hid (HA2.out.below hup3)
  clear hR3 hS3 hup3 kc hb0 HR1b HA1b HB2 HR2 HA2
  go_wp2_with fail
  refine ha.mono ?_
  rintro e w9 ⟨rfl, hb9⟩
  have HB9 := Lib.hid (HB3.out.trans (hb9.mono HB3.out.size))
  obtain ⟨p0, p1, p2, p3, p4, p5, p6⟩ := HR1c.out.up hb9
  obtain ⟨q0, q1, q2, q3, q4, q5, q6⟩ := HR2c.out.up hb9
  obtain ⟨r0, r1, r2, r3, r4, r5, r6⟩ := HR3.out.up hb9
  have HR3d := Lib.hid (HR3.out.up hb9)
  have HR1d := Lib.hid (HR1c.out.up hb9)
  have hs1 := same_any Hl1.out Hm1.out Hl2.out Hm2.out (HA1c.out.below hb9) (HA2c.out.below hb9)
  rw [sameN_refl] at hs1
  have HA1d := Lib.hid (HA1c.out.below hb9)
  have HA3d := Lib.hid (HA3.out.below hb9)
  clear ha hb9 HB3
  go_wp2_with fail
  refine hs1.mono ?_
  rintro e w10 ⟨rfl, hb10⟩
  have HB10 := Lib.hid (HB9.out.trans (hb10.mono HB9.out.size))
  have hs2 := same_any Hl1.out Hm1.out Hl3.out Hm3.out (HA1d.out.below hb10) (HA3d.out.below hb10)
  rw [sameBC] at hs2
  clear p0 p1 p2 p3 p4 p5 p6 q0 q1 q2 q3 q4 q5 q6 r0 r1 r2 r3 r4 r5 r6
  obtain ⟨p0, p1, p2, p3, p4, p5, p6⟩ := HR1d.out.up hb10
  obtain ⟨r0, r1, r2, r3, r4, r5, r6⟩ := HR3d.out.up hb10
  have HR3e := Lib.hid (HR3d.out.up hb10)
  have HA3e := Lib.hid (HA3d.out.below hb10)
  clear hb10 hs1
  go_wp2_with fail
  refine hs2.mono ?_
  rintro e w11 ⟨rfl, hb11⟩
  have HB11 := Lib.hid (HB10.out.trans (hb11.mono HB10.out.size))
  clear p0 p1 p2 p3 p4 p5 p6 r0 r1 r2 r3 r4 r5 r6
  obtain ⟨r0, r1, r2, r3, r4, r5, r6⟩ := HR3e.out.up hb11
  obtain ⟨gg, _⟩ := HA3e.out.below hb11
  obtain ⟨zb, zo, ez, hzb, _, z1⟩ := PlsAt.at_ (i := 0) gg rfl
  have hn32 : n3 = 2 := Hl3.out
  subst ez hn32
  replace z1 : w11.cell? ⟨zb, zo + 1, none⟩ = some (.int .i64 2) := by simpa using z1
  clear hb11 hs2 gg
  go_wp2
  go_ret
  exact ⟨rfl, HB11.out⟩
set_option maxRecDepth 100000 in
set_option maxHeartbeats 2000000 in
theorem ahead_1 (w : World) : Calls Try.prog 11 #[.bool true] w fun e w' => e = .returned (.bool true) ∧ Below w.heap.size w w' := by
  obtain ⟨bb, cc, w1, hr, hcc, hB, b1⟩ := run_bytes_of w { data := #[112, 108, 97, 99, 101, 32, 112, 59, 32, 116, 114, 97, 110, 115, 32, 116, 58, 32, 113, 32, 45, 62, 32, 112, 59, 32, 112, 108, 97, 99, 101, 32, 113, 32, 61, 32, 50, 59] }
  replace hB : BytesAt w1 (some ⟨bb, 0, none⟩) 38 [112, 108, 97, 99, 101, 32, 112, 59, 32, 116, 114, 97, 110, 115, 32, 116, 58, 32, 113, 32, 45, 62, 32, 112, 59, 32, 112, 108, 97, 99, 101, 32, 113, 32, 61, 32, 50, 59] := hB
  replace hcc : 38 ≤ cc := hcc
  replace hr : (convert 9 32 (.string { data := #[112, 108, 97, 99, 101, 32, 112, 59, 32, 116, 114, 97, 110, 115, 32, 116, 58, 32, 113, 32, 45, 62, 32, 112, 59, 32, 112, 108, 97, 99, 101, 32, 113, 32, 61, 32, 50, 59] })).run Try.prog w = .ok (.slice (some ⟨bb, 0, none⟩) 38 cc) w1 := hr
  have hn1 := net_ok (N := netB) hB cc hcc (by decide) (by rw [parseF_eq]; kernel_rfl)
  have Hb1 := Lib.hid b1
  clear hB hcc b1
  go_enter Try.func11, Try.ntmps11
  go_wp2_with fail
  refine hn1.mono ?_
  rintro e v1 ⟨a1, n1, c1, x1, m1, y1, rfl, hl1, hm1, hA1, hb1⟩
  have bw1 : Below v1.heap.size v1 ((v1.alloc (.cells #[.slice a1 n1 c1, .slice x1 m1 y1] 30)).alloc (.cells #[.int .i64 0, .int .i64 0, .int .i64 0, .int .i64 0] 51)) := ((Below.refl _ v1).alloc (Nat.le_refl _) _).alloc (by simp) _
  have hR1 := Res.start v1 (.slice a1 n1 c1) (.slice x1 m1 y1)
  have hS1 := hb1.trans (bw1.mono hb1.size)
  have HA1 := Lib.hid (hA1.below bw1)
  have Hl1 := Lib.hid hl1
  have Hm1 := Lib.hid hm1
  clear hb1 hA1 hl1 hm1 bw1 hn1
  go_upto_region 5 with (fail)
  revert hR1 hS1 HA1
  generalize (v1.alloc (.cells #[.slice a1 n1 c1, .slice x1 m1 y1] 30)).alloc (.cells #[.int .i64 0, .int .i64 0, .int .i64 0, .int .i64 0] 51) = W1
  intro hR1 hS1 HA1
  have HR1 := Lib.hid hR1
  have HB1 := Lib.hid (Hb1.out.trans (hS1.mono Hb1.out.size))
  clear hR1 hS1 hr
  have kc := Lib.run_convert_bytes_const (P := Try.prog) W1 32 5 #[.int .u8 112, .int .u8 108, .int .u8 97, .int .u8 99, .int .u8 101, .int .u8 32, .int .u8 112, .int .u8 59, .int .u8 32, .int .u8 112, .int .u8 108, .int .u8 97, .int .u8 99, .int .u8 101, .int .u8 32, .int .u8 113, .int .u8 32, .int .u8 61, .int .u8 32, .int .u8 50, .int .u8 59, .int .u8 32, .int .u8 116, .int .u8 114, .int .u8 97, .int .u8 110, .int .u8 115, .int .u8 32, .int .u8 116, .int .u8 58, .int .u8 32, .int .u8 113, .int .u8 32, .int .u8 45, .int .u8 62, .int .u8 32, .int .u8 112, .int .u8 59] 38 38 Try.underlying32 Try.underlying5
  have hb0 : Below W1.heap.size W1 (W1.alloc (.cells #[.int .u8 112, .int .u8 108, .int .u8 97, .int .u8 99, .int .u8 101, .int .u8 32, .int .u8 112, .int .u8 59, .int .u8 32, .int .u8 112, .int .u8 108, .int .u8 97, .int .u8 99, .int .u8 101, .int .u8 32, .int .u8 113, .int .u8 32, .int .u8 61, .int .u8 32, .int .u8 50, .int .u8 59, .int .u8 32, .int .u8 116, .int .u8 114, .int .u8 97, .int .u8 110, .int .u8 115, .int .u8 32, .int .u8 116, .int .u8 58, .int .u8 32, .int .u8 113, .int .u8 32, .int .u8 45, .int .u8 62, .int .u8 32, .int .u8 112, .int .u8 59] 5 (38, 39))) := (Below.refl _ W1).alloc (Nat.le_refl _) _
  have hn2 := net_ok (N := netB) (constBytes W1 [112, 108, 97, 99, 101, 32, 112, 59, 32, 112, 108, 97, 99, 101, 32, 113, 32, 61, 32, 50, 59, 32, 116, 114, 97, 110, 115, 32, 116, 58, 32, 113, 32, 45, 62, 32, 112, 59] (38, 39) #[.int .u8 112, .int .u8 108, .int .u8 97, .int .u8 99, .int .u8 101, .int .u8 32, .int .u8 112, .int .u8 59, .int .u8 32, .int .u8 112, .int .u8 108, .int .u8 97, .int .u8 99, .int .u8 101, .int .u8 32, .int .u8 113, .int .u8 32, .int .u8 61, .int .u8 32, .int .u8 50, .int .u8 59, .int .u8 32, .int .u8 116, .int .u8 114, .int .u8 97, .int .u8 110, .int .u8 115, .int .u8 32, .int .u8 116, .int .u8 58, .int .u8 32, .int .u8 113, .int .u8 32, .int .u8 45, .int .u8 62, .int .u8 32, .int .u8 112, .int .u8 59] rfl 5) 38 (by decide) (by decide) (by rw [parseF_eq]; kernel_rfl)
  go_wp2_with fail
  refine hn2.mono ?_
  rintro e v2 ⟨a2, n2, c2, x2, m2, y2, rfl, hl2, hm2, hA2, hb2⟩
  have bw2 : Below v2.heap.size v2 ((v2.alloc (.cells #[.slice a2 n2 c2, .slice x2 m2 y2] 30)).alloc (.cells #[.int .i64 0, .int .i64 0, .int .i64 0, .int .i64 0] 51)) := ((Below.refl _ v2).alloc (Nat.le_refl _) _).alloc (by simp) _
  have hR2 := Res.start v2 (.slice a2 n2 c2) (.slice x2 m2 y2)
  have hS2 := hb2.trans (bw2.mono hb2.size)
  have HA2 := Lib.hid (hA2.below bw2)
  have Hl2 := Lib.hid hl2
  have Hm2 := Lib.hid hm2
  clear hb2 hA2 hl2 hm2 bw2 hn2
  go_upto_region 6 with (fail)
  revert hR2 hS2 HA2
  generalize (v2.alloc (.cells #[.slice a2 n2 c2, .slice x2 m2 y2] 30)).alloc (.cells #[.int .i64 0, .int .i64 0, .int .i64 0, .int .i64 0] 51) = W2
  intro hR2 hS2 HA2
  have HR2 := Lib.hid hR2
  have hup2 := hb0.trans (hS2.mono hb0.size)
  have HB2 := Lib.hid (HB1.out.trans (hup2.mono HB1.out.size))
  have HR1b := Lib.hid (HR1.out.up hup2)
  have HA1b := Lib.hid (HA1.out.below hup2)
  clear hR2 hS2 hup2 kc hb0 HR1 HA1 HB1
  have kc := Lib.run_convert_bytes_const (P := Try.prog) W2 32 5 #[.int .u8 112, .int .u8 108, .int .u8 97, .int .u8 99, .int .u8 101, .int .u8 32, .int .u8 113, .int .u8 32, .int .u8 61, .int .u8 32, .int .u8 50, .int .u8 59, .int .u8 32, .int .u8 116, .int .u8 114, .int .u8 97, .int .u8 110, .int .u8 115, .int .u8 32, .int .u8 116, .int .u8 58, .int .u8 32, .int .u8 113, .int .u8 32, .int .u8 45, .int .u8 62, .int .u8 32, .int .u8 112, .int .u8 59, .int .u8 32, .int .u8 112, .int .u8 108, .int .u8 97, .int .u8 99, .int .u8 101, .int .u8 32, .int .u8 112, .int .u8 59] 38 38 Try.underlying32 Try.underlying5
  have hb0 : Below W2.heap.size W2 (W2.alloc (.cells #[.int .u8 112, .int .u8 108, .int .u8 97, .int .u8 99, .int .u8 101, .int .u8 32, .int .u8 113, .int .u8 32, .int .u8 61, .int .u8 32, .int .u8 50, .int .u8 59, .int .u8 32, .int .u8 116, .int .u8 114, .int .u8 97, .int .u8 110, .int .u8 115, .int .u8 32, .int .u8 116, .int .u8 58, .int .u8 32, .int .u8 113, .int .u8 32, .int .u8 45, .int .u8 62, .int .u8 32, .int .u8 112, .int .u8 59, .int .u8 32, .int .u8 112, .int .u8 108, .int .u8 97, .int .u8 99, .int .u8 101, .int .u8 32, .int .u8 112, .int .u8 59] 5 (38, 39))) := (Below.refl _ W2).alloc (Nat.le_refl _) _
  have hn3 := net_ok (N := netC) (constBytes W2 [112, 108, 97, 99, 101, 32, 113, 32, 61, 32, 50, 59, 32, 116, 114, 97, 110, 115, 32, 116, 58, 32, 113, 32, 45, 62, 32, 112, 59, 32, 112, 108, 97, 99, 101, 32, 112, 59] (38, 39) #[.int .u8 112, .int .u8 108, .int .u8 97, .int .u8 99, .int .u8 101, .int .u8 32, .int .u8 113, .int .u8 32, .int .u8 61, .int .u8 32, .int .u8 50, .int .u8 59, .int .u8 32, .int .u8 116, .int .u8 114, .int .u8 97, .int .u8 110, .int .u8 115, .int .u8 32, .int .u8 116, .int .u8 58, .int .u8 32, .int .u8 113, .int .u8 32, .int .u8 45, .int .u8 62, .int .u8 32, .int .u8 112, .int .u8 59, .int .u8 32, .int .u8 112, .int .u8 108, .int .u8 97, .int .u8 99, .int .u8 101, .int .u8 32, .int .u8 112, .int .u8 59] rfl 5) 38 (by decide) (by decide) (by rw [parseF_eq]; kernel_rfl)
  go_wp2_with fail
  refine hn3.mono ?_
  rintro e v3 ⟨a3, n3, c3, x3, m3, y3, rfl, hl3, hm3, hA3, hb3⟩
  have bw3 : Below v3.heap.size v3 ((v3.alloc (.cells #[.slice a3 n3 c3, .slice x3 m3 y3] 30)).alloc (.cells #[.int .i64 0, .int .i64 0, .int .i64 0, .int .i64 0] 51)) := ((Below.refl _ v3).alloc (Nat.le_refl _) _).alloc (by simp) _
  have hR3 := Res.start v3 (.slice a3 n3 c3) (.slice x3 m3 y3)
  have hS3 := hb3.trans (bw3.mono hb3.size)
  have HA3 := Lib.hid (hA3.below bw3)
  have Hl3 := Lib.hid hl3
  have Hm3 := Lib.hid hm3
  clear hb3 hA3 hl3 hm3 bw3 hn3
  go_upto_region 7 with (fail)
  revert hR3 hS3 HA3
  generalize (v3.alloc (.cells #[.slice a3 n3 c3, .slice x3 m3 y3] 30)).alloc (.cells #[.int .i64 0, .int .i64 0, .int .i64 0, .int .i64 0] 51) = W3
  intro hR3 hS3 HA3
  have HR3 := Lib.hid hR3
  have hup3 := hb0.trans (hS3.mono hb0.size)
  have ha := awake6 W3
  have HB3 := Lib.hid (HB2.out.trans (hup3.mono HB2.out.size))
  have HR1c := Lib.hid (HR1b.out.up hup3)
  have HA1c := Lib.hid (HA1b.out.below hup3)
  have HR2c := Lib.hid (HR2.out.up hup3)
  have HA2c := Lib.hid (HA2.out.below hup3)
  clear hR3 hS3 hup3 kc hb0 HR1b HA1b HB2 HR2 HA2
  go_wp2_with fail
  refine ha.mono ?_
  rintro e w9 ⟨rfl, hb9⟩
  have HB9 := Lib.hid (HB3.out.trans (hb9.mono HB3.out.size))
  obtain ⟨p0, p1, p2, p3, p4, p5, p6⟩ := HR1c.out.up hb9
  obtain ⟨q0, q1, q2, q3, q4, q5, q6⟩ := HR2c.out.up hb9
  obtain ⟨r0, r1, r2, r3, r4, r5, r6⟩ := HR3.out.up hb9
  have HR3d := Lib.hid (HR3.out.up hb9)
  have HR1d := Lib.hid (HR1c.out.up hb9)
  have hs1 := same_any Hl1.out Hm1.out Hl2.out Hm2.out (HA1c.out.below hb9) (HA2c.out.below hb9)
  rw [sameN_refl] at hs1
  have HA1d := Lib.hid (HA1c.out.below hb9)
  have HA3d := Lib.hid (HA3.out.below hb9)
  clear ha hb9 HB3
  go_wp2_with fail
  refine hs1.mono ?_
  rintro e w10 ⟨rfl, hb10⟩
  have HB10 := Lib.hid (HB9.out.trans (hb10.mono HB9.out.size))
  have hs2 := same_any Hl1.out Hm1.out Hl3.out Hm3.out (HA1d.out.below hb10) (HA3d.out.below hb10)
  rw [sameBC] at hs2
  clear p0 p1 p2 p3 p4 p5 p6 q0 q1 q2 q3 q4 q5 q6 r0 r1 r2 r3 r4 r5 r6
  obtain ⟨p0, p1, p2, p3, p4, p5, p6⟩ := HR1d.out.up hb10
  obtain ⟨r0, r1, r2, r3, r4, r5, r6⟩ := HR3d.out.up hb10
  have HR3e := Lib.hid (HR3d.out.up hb10)
  have HA3e := Lib.hid (HA3d.out.below hb10)
  clear hb10 hs1
  go_wp2_with fail
  refine hs2.mono ?_
  rintro e w11 ⟨rfl, hb11⟩
  have HB11 := Lib.hid (HB10.out.trans (hb11.mono HB10.out.size))
  clear p0 p1 p2 p3 p4 p5 p6 r0 r1 r2 r3 r4 r5 r6
  obtain ⟨r0, r1, r2, r3, r4, r5, r6⟩ := HR3e.out.up hb11
  obtain ⟨gg, _⟩ := HA3e.out.below hb11
  obtain ⟨zb, zo, ez, hzb, _, z1⟩ := PlsAt.at_ (i := 0) gg rfl
  have hn32 : n3 = 2 := Hl3.out
  subst ez hn32
  replace z1 : w11.cell? ⟨zb, zo + 1, none⟩ = some (.int .i64 2) := by simpa using z1
  clear hb11 hs2 gg
  go_wp2
  go_ret
  exact ⟨rfl, HB11.out⟩
theorem ahead_law (t : Bool) (w : World) : Calls Try.prog 11 #[.bool t] w fun e w' => e = .returned (.bool true) ∧ Below w.heap.size w w' := by
  cases t
  · exact ahead_0 w
  · exact ahead_1 w
end Go.Proofs.Ytoicmoodhblflaa
