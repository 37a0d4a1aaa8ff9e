/-
  What slices.Equal of arcs and of places comes to.
  Conditions: none beyond each theorem's own.
-/
import Derived.Test.YtpllpofoclijlaaSameN
namespace Go.Proofs.Ytpllpofoclijlaa
open Go.RowKit
set_option linter.unusedVariables false

set_option maxRecDepth 100000 in
set_option maxHeartbeats 1000000 in
theorem eqArcs_any {w : World} {l m : List (Int × Int)} {a b : Option Addr} {n1 n2 c1 c2 : Nat} (hn1 : n1 = l.length) (hn2 : n2 = m.length) (h1 : ArcsAt w (.slice a n1 c1) l) (h2 : ArcsAt w (.slice b n2 c2) m) :
    Calls Try.prog 41 #[.slice a n1 c1, .slice b n2 c2] w fun e w' => e = .returned (.bool (eqL arcE l m)) ∧ Below w.heap.size w w' := by
  have hm1 : n1 ≤ 9223372036854775807 := by have := RowAt.max h1; omega
  have H1 := Lib.hid h1
  have H2 := Lib.hid h2
  have Hn1 := Lib.hid hn1
  have Hn2 := Lib.hid hn2
  obtain ⟨q, hq⟩ : ∃ q, q = eqL arcE l m := ⟨_, rfl⟩
  rw [← hq]
  by_cases hne : n1 = n2
  · have Hq : Hid (q = eqFrom arcE l m 0) := Lib.hid hq
    clear h1 h2 hn1 hn2 hq
    subst hne
    go_enter Try.func41, Try.ntmps41
    go_wp2
    go_loopw [13] (fun i wr => ∃ k : Nat, k ≤ n1 ∧ i = .int .i64 k ∧ Below w.heap.size w wr ∧ Hid (q = eqFrom arcE l m k)) (fun i _ => n1 - (intOf i).toNat)
    case atStart => exact ⟨0, by omega, rfl, Below.refl _ _, Hq⟩
    case round =>
      obtain ⟨k, hk, rfl, hb, Hk⟩ := hrel
      by_cases hlt : k < n1
      · obtain ⟨⟨x, y⟩, hx⟩ := at_lt (l := l) (k := k) (by rw [← Hn1.out]; exact hlt)
        obtain ⟨⟨x', y'⟩, hx'⟩ := at_lt (l := m) (k := k) (by rw [← Hn2.out]; exact hlt)
        have hlti : (k : Int) < (n1 : Int) := by omega
        obtain ⟨b1, off1, rfl, hb1, e0, e1⟩ := ArcsAt.at_ (H1.out.below hb) hx
        obtain ⟨b2, off2, rfl, hb2, e2, e3⟩ := ArcsAt.at_ (H2.out.below hb) hx'
        have Hs : Hid (eqFrom arcE l m k = (((x == x') && (y == y')) && eqFrom arcE l m (k + 1))) := Lib.hid (eqFrom_step hx hx')
        have Hb := Lib.hid hb
        clear hx hx' hb
        by_cases hxx : x = x'
        · subst hxx
          by_cases hyy : y = y'
          · subst hyy
            have Hr : Hid (q = eqFrom arcE l m (k + 1)) := Lib.hid (by rw [Hk.out, Hs.out]; simp)
            clear Hs
            go_wp2
            go_quiet (fail)
            have HB := Lib.hid (below_drews Hb.out nq)
            go_wp2
            go_roundw
            case rel => exact ⟨k + 1, by omega, by go_num, HB.out, Hr⟩
            case measure => simp [intOf]; omega
          · have hyb : (y == y') = false := by simpa using hyy
            obtain rfl : q = false := by rw [Hk.out, Hs.out, hyb]; simp
            clear Hs
            go_wp2
            go_quiet (fail)
            have HB := Lib.hid (below_drews Hb.out nq)
            go_wp2
            go_ret
            exact ⟨rfl, HB.out⟩
        · have hxb : (x == x') = false := by simpa using hxx
          obtain rfl : q = false := by rw [Hk.out, Hs.out, hxb]; simp
          clear Hs
          go_wp2
          go_quiet (fail)
          have HB := Lib.hid (below_drews Hb.out nq)
          go_wp2
          go_ret
          exact ⟨rfl, HB.out⟩
      · have hge : ¬ (k : Int) < (n1 : Int) := by omega
        have Hr : Hid (q = true) := Lib.hid (by rw [Hk.out]; exact eqFrom_end (by rw [← Hn1.out]; omega) (by rw [← Hn2.out]; omega))
        have Hb := Lib.hid hb
        clear hb
        go_wp2
        go_ret
        exact ⟨by rw [Hr.out]; rfl, Hb.out⟩
  · have hneb : ((n1 : Int) == (n2 : Int)) = false := by simp; omega
    obtain rfl : q = false := by rw [hq]; exact eqL_len (by rw [← hn1, ← hn2]; exact hne)
    clear h1 h2 hn1 hn2 hq hne
    go_enter Try.func41, Try.ntmps41
    go_wp2
    go_ret
    exact ⟨rfl, Below.refl _ _⟩

set_option maxRecDepth 100000 in
set_option maxHeartbeats 1000000 in
theorem eqPls_any {w : World} {l m : List Pl} {a b : Option Addr} {n1 n2 c1 c2 : Nat} (hn1 : n1 = l.length) (hn2 : n2 = m.length) (h1 : PlsAt w (.slice a n1 c1) l) (h2 : PlsAt w (.slice b n2 c2) m) :
    Calls Try.prog 30 #[.slice a n1 c1, .slice b n2 c2] w fun e w' => e = .returned (.bool (eqL plE l m)) ∧ Below w.heap.size w w' := by
  have hm1 : n1 ≤ 9223372036854775807 := by have := RowAt.max h1; omega
  have H1 := Lib.hid h1
  have H2 := Lib.hid h2
  have Hn1 := Lib.hid hn1
  have Hn2 := Lib.hid hn2
  obtain ⟨q, hq⟩ : ∃ q, q = eqL plE l m := ⟨_, rfl⟩
  rw [← hq]
  by_cases hne : n1 = n2
  · have Hq : Hid (q = eqFrom plE l m 0) := Lib.hid hq
    clear h1 h2 hn1 hn2 hq
    subst hne
    go_enter Try.func30, Try.ntmps30
    go_wp2
    go_loopw [13] (fun i wr => ∃ k : Nat, k ≤ n1 ∧ i = .int .i64 k ∧ Below w.heap.size w wr ∧ Hid (q = eqFrom plE l m k)) (fun i _ => n1 - (intOf i).toNat)
    case atStart => exact ⟨0, by omega, rfl, Below.refl _ _, Hq⟩
    case round =>
      obtain ⟨k, hk, rfl, hb, Hk⟩ := hrel
      by_cases hlt : k < n1
      · obtain ⟨x, hx⟩ := at_lt (l := l) (k := k) (by rw [← Hn1.out]; exact hlt)
        obtain ⟨y, hy⟩ := at_lt (l := m) (k := k) (by rw [← Hn2.out]; exact hlt)
        have hlti : (k : Int) < (n1 : Int) := by omega
        obtain ⟨b1, off1, rfl, hb1, e0, e1⟩ := PlsAt.at_ (H1.out.below hb) hx
        obtain ⟨b2, off2, rfl, hb2, e2, e3⟩ := PlsAt.at_ (H2.out.below hb) hy
        have Hs : Hid (eqFrom plE l m k = ((sEq x.name y.name && (x.tok == y.tok)) && eqFrom plE l m (k + 1))) := Lib.hid (eqFrom_step hx hy)
        have Hb := Lib.hid hb
        clear hx hy hb
        have hst := sEq_toList x.name y.name
        cases hxx : sEq x.name y.name with
        | true =>
          rw [hxx] at hst Hs
          by_cases hyy : x.tok = y.tok
          · have hyb : (x.tok == y.tok) = true := by simpa using hyy
            have Hr : Hid (q = eqFrom plE l m (k + 1)) := Lib.hid (by rw [Hk.out, Hs.out, hyb]; simp)
            clear Hs hxx hyy
            go_wp2
            go_quiet (fail)
            have HB := Lib.hid (below_drews Hb.out nq)
            go_wp2
            go_roundw
            case rel => exact ⟨k + 1, by omega, by go_num, HB.out, Hr⟩
            case measure => simp [intOf]; omega
          · have hyb : (x.tok == y.tok) = false := by simpa using hyy
            obtain rfl : q = false := by rw [Hk.out, Hs.out, hyb]; simp
            clear Hs hxx hyy
            go_wp2
            go_quiet (fail)
            have HB := Lib.hid (below_drews Hb.out nq)
            go_wp2
            go_ret
            exact ⟨rfl, HB.out⟩
        | false =>
          rw [hxx] at hst Hs
          obtain rfl : q = false := by rw [Hk.out, Hs.out]; simp
          clear Hs hxx
          go_wp2
          go_quiet (fail)
          have HB := Lib.hid (below_drews Hb.out nq)
          go_wp2
          go_ret
          exact ⟨rfl, HB.out⟩
      · have hge : ¬ (k : Int) < (n1 : Int) := by omega
        have Hr : Hid (q = true) := Lib.hid (by rw [Hk.out]; exact eqFrom_end (by rw [← Hn1.out]; omega) (by rw [← Hn2.out]; omega))
        have Hb := Lib.hid hb
        clear hb
        go_wp2
        go_ret
        exact ⟨by rw [Hr.out]; rfl, Hb.out⟩
  · have hneb : ((n1 : Int) == (n2 : Int)) = false := by simp; omega
    obtain rfl : q = false := by rw [hq]; exact eqL_len (by rw [← hn1, ← hn2]; exact hne)
    clear h1 h2 hn1 hn2 hq hne
    go_enter Try.func30, Try.ntmps30
    go_wp2
    go_ret
    exact ⟨rfl, Below.refl _ _⟩
end Go.Proofs.Ytpllpofoclijlaa
