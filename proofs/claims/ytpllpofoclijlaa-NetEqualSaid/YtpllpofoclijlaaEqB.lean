/-
  What net's equalTrans comes to.
  Conditions: none beyond each theorem's own.
-/
import Derived.Test.YtpllpofoclijlaaEqA
namespace Go.Proofs.Ytpllpofoclijlaa
open Go.RowKit
set_option linter.unusedVariables false

section
variable {w : World} {s t : Tr} {a1 a2 a3 b1 b2 b3 : Option Addr} {n1 n2 n3 m1 m2 m3 c1 c2 c3 d1 d2 d3 : Nat}

set_option maxRecDepth 100000 in
set_option maxHeartbeats 2000000 in
theorem eqTrans_any (hn1 : n1 = s.inn.length) (hn2 : n2 = s.nt.length) (hn3 : n3 = s.out.length) (hm1 : m1 = t.inn.length) (hm2 : m2 = t.nt.length) (hm3 : m3 = t.out.length)
    (g1 : ArcsAt w (.slice a1 n1 c1) s.inn) (g2 : ArcsAt w (.slice a2 n2 c2) s.nt) (g3 : ArcsAt w (.slice a3 n3 c3) s.out) (k1 : ArcsAt w (.slice b1 m1 d1) t.inn) (k2 : ArcsAt w (.slice b2 m2 d2) t.nt) (k3 : ArcsAt w (.slice b3 m3 d3) t.out) :
    Calls Try.prog 32 #[.agg #[.string s.name, .int .i64 s.delay, .int .i64 s.prio, .slice a1 n1 c1, .slice a2 n2 c2, .slice a3 n3 c3], .agg #[.string t.name, .int .i64 t.delay, .int .i64 t.prio, .slice b1 m1 d1, .slice b2 m2 d2, .slice b3 m3 d3]] w fun e w' => e = .returned (.bool (trE s t)) ∧ Below w.heap.size w w' := by
  obtain ⟨q, hq⟩ : ∃ q, q = trE s t := ⟨_, rfl⟩
  rw [← hq]
  have Hq := Lib.hid hq
  have hW : Below w.heap.size w ((w.alloc (.cells #[.string s.name, .int .i64 s.delay, .int .i64 s.prio, .slice a1 n1 c1, .slice a2 n2 c2, .slice a3 n3 c3] 40)).alloc (.cells #[.string t.name, .int .i64 t.delay, .int .i64 t.prio, .slice b1 m1 d1, .slice b2 m2 d2, .slice b3 m3 d3] 40)) := ((Below.refl _ w).alloc (Nat.le_refl _) _).alloc (by simp) _
  have HW := Lib.hid hW
  have hst := sEq_toList s.name t.name
  have e1 := eqArcs_any hn1 hm1 (g1.below hW) (k1.below hW)
  have E2 := Lib.hid (fun W (hb : Below w.heap.size w W) => eqArcs_any hn2 hm2 (g2.below hb) (k2.below hb))
  have E3 := Lib.hid (fun W (hb : Below w.heap.size w W) => eqArcs_any hn3 hm3 (g3.below hb) (k3.below hb))
  obtain ⟨r1, hr1⟩ : ∃ r, r = eqL arcE s.inn t.inn := ⟨_, rfl⟩
  obtain ⟨r2, hr2⟩ : ∃ r, r = eqL arcE s.nt t.nt := ⟨_, rfl⟩
  obtain ⟨r3, hr3⟩ : ∃ r, r = eqL arcE s.out t.out := ⟨_, rfl⟩
  rw [← hr1] at e1
  rw [← hr2] at E2
  rw [← hr3] at E3
  have HQ : Hid (q = (sEq s.name t.name && ((s.delay == t.delay) && ((s.prio == t.prio) && (r1 && (r2 && r3)))))) := Lib.hid (by rw [hq, hr1, hr2, hr3]; rfl)
  clear hq hW hn1 hn2 hn3 hm1 hm2 hm3 g1 g2 g3 k1 k2 k3 Hq hr1 hr2 hr3
  cases h0 : sEq s.name t.name with
  | false =>
    obtain rfl : q = false := by rw [HQ.out, h0]; rfl
    rw [h0] at hst
    clear h0
    go_enter Try.func32, Try.ntmps32
    go_wp2
    go_ret
    exact ⟨rfl, HW.out⟩
  | true =>
  rw [h0] at hst HQ
  by_cases h1 : s.delay = t.delay
  case neg =>
    have h1b : (s.delay == t.delay) = false := by simpa using h1
    obtain rfl : q = false := by rw [HQ.out, h1b]; rfl
    clear h0 h1
    go_enter Try.func32, Try.ntmps32
    go_wp2
    go_ret
    exact ⟨rfl, HW.out⟩
  have h1b : (s.delay == t.delay) = true := by simpa using h1
  rw [h1b] at HQ
  by_cases h2 : s.prio = t.prio
  case neg =>
    have h2b : (s.prio == t.prio) = false := by simpa using h2
    obtain rfl : q = false := by rw [HQ.out, h2b]; rfl
    clear h0 h1 h2
    go_enter Try.func32, Try.ntmps32
    go_wp2
    go_ret
    exact ⟨rfl, HW.out⟩
  have h2b : (s.prio == t.prio) = true := by simpa using h2
  rw [h2b] at HQ
  clear h0 h1 h2
  go_enter Try.func32, Try.ntmps32
  go_wp2_with fail
  refine e1.mono ?_
  rintro e w1 ⟨rfl, hb1⟩
  have hU1 := HW.out.trans (hb1.mono HW.out.size)
  have e2 := E2.out w1 hU1
  have HU1 := Lib.hid hU1
  have x4 : w1.cell? ⟨w.heap.size, 4, none⟩ = some (.slice a2 n2 c2) := (below_cells hb1 _ _ (by simp; omega)).trans (by go_simp)
  have y4 : w1.cell? ⟨w.heap.size + 1, 4, none⟩ = some (.slice b2 m2 d2) := (below_cells hb1 _ _ (by simp)).trans (by go_simp)
  have x5 : w1.cell? ⟨w.heap.size, 5, none⟩ = some (.slice a3 n3 c3) := (below_cells hb1 _ _ (by simp; omega)).trans (by go_simp)
  have y5 : w1.cell? ⟨w.heap.size + 1, 5, none⟩ = some (.slice b3 m3 d3) := (below_cells hb1 _ _ (by simp)).trans (by go_simp)
  have hsz : w.heap.size + 1 < w1.heap.size := Nat.lt_of_lt_of_le (by simp) hb1.size
  have hsz0 : w.heap.size < w1.heap.size := by omega
  clear hb1 hU1 e1 hst h1b h2b
  cases r1 with
  | false =>
    obtain rfl : q = false := by rw [HQ.out]; rfl
    clear e2
    go_wp2
    go_ret
    exact ⟨rfl, HU1.out⟩
  | true =>
  go_wp2_with fail
  refine e2.mono ?_
  rintro e w2 ⟨rfl, hb2⟩
  have hU2 := HU1.out.trans (hb2.mono HU1.out.size)
  have e3 := E3.out w2 hU2
  have HU2 := Lib.hid hU2
  have x5' : w2.cell? ⟨w.heap.size, 5, none⟩ = some (.slice a3 n3 c3) := (below_cells hb2 _ _ hsz0).trans x5
  have y5' : w2.cell? ⟨w.heap.size + 1, 5, none⟩ = some (.slice b3 m3 d3) := (below_cells hb2 _ _ hsz).trans y5
  have hsz2 : w.heap.size + 1 < w2.heap.size := Nat.lt_of_lt_of_le hsz hb2.size
  have hsz20 : w.heap.size < w2.heap.size := by omega
  clear hb2 hU2 e2 x4 y4 x5 y5 hsz hsz0
  cases r2 with
  | false =>
    obtain rfl : q = false := by rw [HQ.out]; rfl
    clear e3
    go_wp2
    go_ret
    exact ⟨rfl, HU2.out⟩
  | true =>
  go_wp2_with fail
  refine e3.mono ?_
  rintro e w3 ⟨rfl, hb3⟩
  have HU3 := Lib.hid (HU2.out.trans (hb3.mono HU2.out.size))
  obtain rfl : q = r3 := by rw [HQ.out]; simp
  clear hb3 e3
  go_wp2
  go_ret
  exact ⟨rfl, HU3.out⟩
end
end Go.Proofs.Ytpllpofoclijlaa
