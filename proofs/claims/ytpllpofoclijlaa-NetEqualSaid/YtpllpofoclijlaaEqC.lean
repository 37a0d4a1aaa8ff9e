/-
  What slices.EqualFunc of transitions, and net.Equal come to.
  Conditions: none beyond each theorem's own.
-/
import Derived.Test.YtpllpofoclijlaaEqB
import Derived.Test.YtpllpofoclijlaaSameW
namespace Go.Proofs.Ytpllpofoclijlaa
open Go.RowKit
set_option linter.unusedVariables false

set_option maxRecDepth 100000 in
set_option maxHeartbeats 2000000 in
theorem eqFunc_any {w : World} {l m : List Tr} {tl tm : List (Tr × Value × Value × Value)} {a b : Option Addr} {n1 n2 c1 c2 : Nat} (hn1 : n1 = l.length) (hn2 : n2 = m.length) (hl : tl.map (·.1) = l) (hm : tm.map (·.1) = m) (h1 : TrsAt w (.slice a n1 c1) tl) (h2 : TrsAt w (.slice b n2 c2) tm) :
    Calls Try.prog 31 #[.slice a n1 c1, .slice b n2 c2, .func (.func 32) #[] #[]] w fun e w' => e = .returned (.bool (eqL trE l m)) ∧ Below w.heap.size w w' := by
  have hmx : n1 ≤ 9223372036854775807 := by have := RowAt.max h1.1; have := congrArg List.length hl; simp at this; omega
  have H1 := Lib.hid h1
  have H2 := Lib.hid h2
  have Hn1 := Lib.hid hn1
  have Hn2 := Lib.hid hn2
  have Hl := Lib.hid hl
  have Hm := Lib.hid hm
  obtain ⟨q, hq⟩ : ∃ q, q = eqL trE l m := ⟨_, rfl⟩
  rw [← hq]
  by_cases hne : n1 = n2
  · have Hq : Hid (q = eqFrom trE l m 0) := Lib.hid hq
    clear h1 h2 hn1 hn2 hq hl hm
    subst hne
    go_enter Try.func31, Try.ntmps31
    go_wp2
    go_loopw [17] (fun i wr => ∃ k : Nat, k ≤ n1 ∧ i = .int .i64 k ∧ Below w.heap.size w wr ∧ Hid (q = eqFrom trE l m k)) (fun i _ => n1 - (intOf i).toNat)
    case atStart => exact ⟨0, by omega, rfl, Below.refl _ _, Hq⟩
    case round =>
      obtain ⟨k, hk, rfl, hb, Hk⟩ := hrel
      by_cases hlt : k < n1
      · obtain ⟨s, hs⟩ := at_lt (l := l) (k := k) (by rw [← Hn1.out]; exact hlt)
        obtain ⟨t, ht⟩ := at_lt (l := m) (k := k) (by rw [← Hn2.out]; exact hlt)
        have hlti : (k : Int) < (n1 : Int) := by omega
        obtain ⟨b1, off1, x1, y1, x2, y2, x3, y3, e, hb1, t0, t1, t2, t3, t4, t5, g1, g2, g3⟩ := TrsAt.at_ (H1.out.below hb) (by rw [Hl.out]; exact hs)
        subst e
        obtain ⟨b2, off2, u1, v1, u2, v2, u3, v3, e, hb2, s0, s1, s2, s3, s4, s5, k1, k2, k3⟩ := TrsAt.at_ (H2.out.below hb) (by rw [Hm.out]; exact ht)
        subst e
        have Hs : Hid (eqFrom trE l m k = (trE s t && eqFrom trE l m (k + 1))) := Lib.hid (eqFrom_step hs ht)
        obtain ⟨i1, hi1⟩ : ∃ i, i = s.inn.length := ⟨_, rfl⟩
        obtain ⟨i2, hi2⟩ : ∃ i, i = s.nt.length := ⟨_, rfl⟩
        obtain ⟨i3, hi3⟩ : ∃ i, i = s.out.length := ⟨_, rfl⟩
        obtain ⟨j1, hj1⟩ : ∃ i, i = t.inn.length := ⟨_, rfl⟩
        obtain ⟨j2, hj2⟩ : ∃ i, i = t.nt.length := ⟨_, rfl⟩
        obtain ⟨j3, hj3⟩ : ∃ i, i = t.out.length := ⟨_, rfl⟩
        rw [← hi1] at t3 g1
        rw [← hi2] at t4 g2
        rw [← hi3] at t5 g3
        rw [← hj1] at s3 k1
        rw [← hj2] at s4 k2
        rw [← hj3] at s5 k3
        have hal : Below wr.heap.size wr ((wr.alloc (.cells #[.string s.name, .int .i64 s.delay, .int .i64 s.prio, .slice x1 i1 y1, .slice x2 i2 y2, .slice x3 i3 y3] 40)).alloc (.cells #[.string t.name, .int .i64 t.delay, .int .i64 t.prio, .slice u1 j1 v1, .slice u2 j2 v2, .slice u3 j3 v3] 40)) := ((Below.refl _ wr).alloc (Nat.le_refl _) _).alloc (by simp) _
        have he := eqTrans_any hi1 hi2 hi3 hj1 hj2 hj3 (g1.below hal) (g2.below hal) (g3.below hal) (k1.below hal) (k2.below hal) (k3.below hal)
        have Hb := Lib.hid (hb.trans (hal.mono hb.size))
        obtain ⟨r, hr⟩ : ∃ r, r = trE s t := ⟨_, rfl⟩
        rw [← hr] at he Hs
        clear hs ht hb hal g1 g2 g3 k1 k2 k3 hi1 hi2 hi3 hj1 hj2 hj3 hr
        go_wp2_with fail
        refine he.mono ?_
        rintro e w3 ⟨rfl, hb3⟩
        have HB := Lib.hid (Hb.out.trans (hb3.mono Hb.out.size))
        clear he hb3
        cases r with
        | true =>
          have Hr : Hid (q = eqFrom trE l m (k + 1)) := Lib.hid (by rw [Hk.out, Hs.out]; simp)
          go_wp2
          go_roundw
          case rel => exact ⟨k + 1, by omega, by go_num, HB.out, Hr⟩
          case measure => simp [intOf]; omega
        | false =>
          obtain rfl : q = false := by rw [Hk.out, Hs.out]; simp
          go_wp2
          go_ret
          exact ⟨rfl, HB.out⟩
      · have hge : ¬ (k : Int) < (n1 : Int) := by omega
        have Hr : Hid (q = true) := Lib.hid (by rw [Hk.out]; exact eqFrom_end (by rw [← Hn1.out]; omega) (by rw [← Hn2.out]; omega))
        have Hb := Lib.hid hb
        clear hb
        go_wp2
        go_ret
        exact ⟨by rw [Hr.out]; rfl, Hb.out⟩
  · have hneb : ((n1 : Int) == (n2 : Int)) = false := by simp; omega
    obtain rfl : q = false := by rw [hq]; exact eqL_len (by rw [← hn1, ← hn2]; exact hne)
    clear h1 h2 hn1 hn2 hq hne hl hm
    go_enter Try.func31, Try.ntmps31
    go_wp2
    go_ret
    exact ⟨rfl, Below.refl _ _⟩

set_option maxRecDepth 100000 in
set_option maxHeartbeats 2000000 in
theorem equal_any {w : World} {n m : Nt} {a1 a2 a3 a4 : Option Addr} {n1 n2 n3 n4 c1 c2 c3 c4 : Nat} (hn1 : n1 = n.places.length) (hn2 : n2 = n.trans.length) (hn3 : n3 = m.places.length) (hn4 : n4 = m.trans.length)
    (h1 : NetAt w (.slice a1 n1 c1) (.slice a2 n2 c2) n) (h2 : NetAt w (.slice a3 n3 c3) (.slice a4 n4 c4) m) :
    Calls Try.prog 12 #[.agg #[.slice a1 n1 c1, .slice a2 n2 c2], .agg #[.slice a3 n3 c3, .slice a4 n4 c4]] w fun e w' => e = .returned (.bool (sameN n m)) ∧ Below w.heap.size w w' := by
  obtain ⟨q, hq⟩ : ∃ q, q = sameN n m := ⟨_, rfl⟩
  rw [← hq]
  have hT0 := InTwo.start w (.slice a1 n1 c1) (.slice a2 n2 c2) (.slice a3 n3 c3) (.slice a4 n4 c4)
  obtain ⟨g1, l, hl, g2⟩ := h1
  obtain ⟨g3, l', hl', g4⟩ := h2
  have e1 := eqPls_any hn1 hn3 (g1.below hT0.below) (g3.below hT0.below)
  have E2 := Lib.hid (fun W (hb : Below w.heap.size w W) => eqFunc_any hn2 hn4 hl hl' (g2.below hb) (g4.below hb))
  obtain ⟨r1, hr1⟩ : ∃ r, r = eqL plE n.places m.places := ⟨_, rfl⟩
  obtain ⟨r2, hr2⟩ : ∃ r, r = eqL trE n.trans m.trans := ⟨_, rfl⟩
  rw [← hr1] at e1
  rw [← hr2] at E2
  have HQ : Hid (q = (r1 && r2)) := Lib.hid (by rw [hq, hr1, hr2]; rfl)
  have HT0 := Lib.hid hT0
  clear hq hT0 g1 g2 g3 g4 hl hl' hn1 hn2 hn3 hn4 hr1 hr2
  go_enter Try.func12, Try.ntmps12
  go_wp2_with fail
  refine e1.mono ?_
  rintro e w1 ⟨rfl, hb1⟩
  have hT1 := HT0.out.go hb1
  obtain ⟨b0, b1, b2, b3, blt⟩ := hT1.cells
  have blt0 : w.heap.size < w1.heap.size := by omega
  have HT1 := Lib.hid hT1
  have e2 := E2.out w1 hT1.below
  clear hb1 hT1 e1
  cases r1 with
  | false =>
    obtain rfl : q = false := by rw [HQ.out]; rfl
    clear e2
    go_wp2
    go_ret
    exact ⟨rfl, HT1.out.below⟩
  | true =>
    obtain rfl : q = r2 := by rw [HQ.out]; rfl
    go_wp2_with fail
    refine e2.mono ?_
    rintro e w2 ⟨rfl, hb2⟩
    have HT2 := Lib.hid (HT1.out.go hb2)
    clear hb2 e2
    go_wp2
    go_ret
    exact ⟨rfl, HT2.out.below⟩
end Go.Proofs.Ytpllpofoclijlaa
