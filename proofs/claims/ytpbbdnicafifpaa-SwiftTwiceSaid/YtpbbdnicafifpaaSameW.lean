/-
  The walk of the document's own Same.
  Conditions: none beyond each theorem's own.
-/
import Derived.Test.YtpbbdnicafifpaaSameN
import Derived.Test.YtpbbdnicafifpaaMakeB
namespace Go.Proofs.Ytpbbdnicafifpaa
open Go.RowKit
set_option linter.unusedVariables false

/-- both nets' boxes -/
structure InTwo (w wr : World) (v0 v1 u0 u1 : Value) : Prop where
  all : AllOwn w.heap.size wr [boxRow w.heap.size 31 [v0, v1], boxRow (w.heap.size + 1) 31 [u0, u1]]
  below : Below w.heap.size w wr

section
variable {w wr w' : World} {v0 v1 u0 u1 : Value}
theorem InTwo.start (w : World) (v0 v1 u0 u1 : Value) : InTwo w ((w.alloc (.cells #[v0, v1] 31)).alloc (.cells #[u0, u1] 31)) v0 v1 u0 u1 := by
  have hs1 : (w.alloc (.cells #[v0, v1] 31)).heap.size = w.heap.size + 1 := by simp
  have h1 := (AllOwn.nil w.heap.size w).add ((Below.refl _ w).alloc (Nat.le_refl _) _) (boxRow.new w.heap.size w 31 #[v0, v1] (Nat.le_refl _)) (fun k e => by injection e with e; subst e; exact Nat.le_refl _)
  have h2 := h1.add ((Below.refl _ _).alloc (Nat.le_refl _) _) (boxRow.new w.heap.size _ 31 #[u0, u1] (by simp <;> omega)) (fun k e => by injection e with e; subst e; exact Nat.le_refl _)
  rw [hs1] at h2
  exact ⟨h2, ((Below.refl _ w).alloc (Nat.le_refl _) _).alloc (by simp) _⟩
theorem InTwo.go (h : InTwo w wr v0 v1 u0 u1) (hb : Below wr.heap.size wr w') : InTwo w w' v0 v1 u0 u1 := ⟨h.all.below hb, h.below.trans (hb.mono h.below.size)⟩
theorem InTwo.cells (h : InTwo w wr v0 v1 u0 u1) : wr.cell? ⟨w.heap.size, 0, none⟩ = some v0 ∧ wr.cell? ⟨w.heap.size, 1, none⟩ = some v1 ∧ wr.cell? ⟨w.heap.size + 1, 0, none⟩ = some u0 ∧ wr.cell? ⟨w.heap.size + 1, 1, none⟩ = some u1 ∧ w.heap.size + 1 < wr.heap.size := by
  have h1 := h.all.own (boxRow w.heap.size 31 [v0, v1]) (by simp)
  have h2 := h.all.own (boxRow (w.heap.size + 1) 31 [u0, u1]) (by simp)
  exact ⟨boxRow.cell h1 rfl, boxRow.cell h1 rfl, boxRow.cell h2 rfl, boxRow.cell h2 rfl, (boxRow.lt h2).2⟩
end

set_option maxRecDepth 100000 in
set_option maxHeartbeats 4000000 in
theorem same_any {w : World} {n m : Nt} {a1 a2 a3 a4 : Option Addr} {n1 n2 n3 n4 c1 c2 c3 c4 : Nat} (hn1 : n1 = n.places.length) (hn2 : n2 = n.trans.length) (hn3 : n3 = m.places.length) (hn4 : n4 = m.trans.length)
    (h1 : NetAt w (.slice a1 n1 c1) (.slice a2 n2 c2) n) (h2 : NetAt w (.slice a3 n3 c3) (.slice a4 n4 c4) m) :
    Calls Try.prog 41 #[.agg #[.slice a1 n1 c1, .slice a2 n2 c2], .agg #[.slice a3 n3 c3, .slice a4 n4 c4]] w fun e w' => e = .returned (.bool (sameN n m)) ∧ Below w.heap.size w w' := by
  obtain ⟨q, hq⟩ : ∃ q, q = sameN n m := ⟨_, rfl⟩
  rw [← hq]
  have hT0 := InTwo.start w (.slice a1 n1 c1) (.slice a2 n2 c2) (.slice a3 n3 c3) (.slice a4 n4 c4)
  have HT0 := Lib.hid hT0
  clear hT0
  by_cases hp : ¬ n1 = n3
  · have hpb : ((n1 : Int) == (n3 : Int)) = false := by simp; omega
    obtain rfl : q = false := by rw [hq]; unfold sameN; rw [eqL_len (f := plE) (by rw [← hn1, ← hn3]; exact hp)]; rfl
    clear h1 h2 hn1 hn2 hn3 hn4 hq hp
    go_enter Try.func41, Try.ntmps41
    go_wp2
    go_ret
    exact ⟨rfl, HT0.out.below⟩
  replace hp : n1 = n3 := by omega
  by_cases ht : ¬ n2 = n4
  · subst hp
    have htb : ((n2 : Int) == (n4 : Int)) = false := by simp; omega
    obtain rfl : q = false := by rw [hq]; unfold sameN; rw [eqL_len (f := trE) (by rw [← hn2, ← hn4]; exact ht)]; simp
    clear h1 h2 hn1 hn2 hn3 hn4 hq ht
    go_enter Try.func41, Try.ntmps41
    go_wp2
    go_ret
    exact ⟨rfl, HT0.out.below⟩
  replace ht : n2 = n4 := by omega
  subst hp ht
  obtain ⟨g1, l, hl, g2⟩ := h1
  obtain ⟨g3, l', hl', g4⟩ := h2
  have HQ : Hid (q = (eqFrom plE n.places m.places 0 && eqL trE n.trans m.trans)) := Lib.hid hq
  have G1 := Lib.hid g1
  have G2 := Lib.hid g2
  have G3 := Lib.hid g3
  have G4 := Lib.hid g4
  have Hl := Lib.hid hl
  have Hl' := Lib.hid hl'
  have Hn1 := Lib.hid hn1
  have Hn2 := Lib.hid hn2
  have Hn3 := Lib.hid hn3
  have Hn4 := Lib.hid hn4
  have hmx1 : n1 ≤ 9223372036854775807 := by have := RowAt.max g1; omega
  have hmx2 : n2 ≤ 9223372036854775807 := by have := RowAt.max g2.1; have := congrArg List.length hl; simp at this; omega
  clear g1 g2 g3 g4 hl hl' hn1 hn2 hn3 hn4 hq
  go_enter Try.func41, Try.ntmps41
  go_wp2
  go_loopw [5] (fun i wr => ∃ k : Nat, k ≤ n1 ∧ i = .int .i64 k ∧ InTwo w wr (.slice a1 n1 c1) (.slice a2 n2 c2) (.slice a3 n1 c3) (.slice a4 n2 c4) ∧ Hid (q = (eqFrom plE n.places m.places k && eqL trE n.trans m.trans))) (fun i _ => n1 - (intOf i).toNat)
  case atStart => exact ⟨0, by omega, rfl, HT0.out, HQ⟩
  case round =>
    rename World => v1
    obtain ⟨k, hk, rfl, hin, Hk⟩ := hrel
    obtain ⟨b0, b1, b2, b3, blt⟩ := hin.cells
    by_cases hlt : k < n1
    · obtain ⟨x, hx⟩ := at_lt (l := n.places) (k := k) (by rw [← Hn1.out]; exact hlt)
      obtain ⟨y, hy⟩ := at_lt (l := m.places) (k := k) (by rw [← Hn3.out]; exact hlt)
      have hlti : (k : Int) < (n1 : Int) := by omega
      obtain ⟨b5, off5, rfl, hb5, e0, e1⟩ := PlsAt.at_ (G1.out.below hin.below) hx
      obtain ⟨b6, off6, rfl, hb6, e2, e3⟩ := PlsAt.at_ (G3.out.below hin.below) hy
      have Hs : Hid (eqFrom plE n.places m.places k = ((sEq x.name y.name && (x.tok == y.tok)) && eqFrom plE n.places m.places (k + 1))) := Lib.hid (eqFrom_step hx hy)
      have Hin := Lib.hid hin
      clear hx hy hin
      have hst := sEq_toList x.name y.name
      cases hxx : sEq x.name y.name with
      | true =>
        rw [hxx] at hst Hs
        by_cases hyy : x.tok = y.tok
        · have hyb : (x.tok == y.tok) = true := by simpa using hyy
          have Hr : Hid (q = (eqFrom plE n.places m.places (k + 1) && eqL trE n.trans m.trans)) := Lib.hid (by rw [Hk.out, Hs.out, hyb]; simp)
          clear Hs hxx hyy
          go_wp2
          go_quiet (fail)
          have HI := Lib.hid (Hin.out.go (below_drews (Below.refl _ _) nq))
          go_wp2
          go_roundw
          case rel => exact ⟨k + 1, by omega, by go_num, HI.out, Hr⟩
          case measure => simp [intOf]; omega
        · have hyb : (x.tok == y.tok) = false := by simpa using hyy
          obtain rfl : q = false := by rw [Hk.out, Hs.out, hyb]; simp
          clear Hs hxx hyy
          go_wp2
          go_quiet (fail)
          have HI := Lib.hid (Hin.out.go (below_drews (Below.refl _ _) nq))
          go_wp2
          go_ret
          exact ⟨rfl, HI.out.below⟩
      | false =>
        rw [hxx] at hst Hs
        obtain rfl : q = false := by rw [Hk.out, Hs.out]; simp
        clear Hs hxx
        go_wp2
        go_quiet (fail)
        have HI := Lib.hid (Hin.out.go (below_drews (Below.refl _ _) nq))
        go_wp2
        go_ret
        exact ⟨rfl, HI.out.below⟩
    · have hge : ¬ (k : Int) < (n1 : Int) := by omega
      have HQ2 : Hid (q = eqFrom trE n.trans m.trans 0) := Lib.hid (by rw [Hk.out, eqFrom_end (by rw [← Hn1.out]; omega) (by rw [← Hn3.out]; omega)]; rfl)
      have Hin := Lib.hid hin
      clear hin
      go_wp2
      clear b0 b1 b2 b3 blt
      go_loopw [6] (fun i wr => ∃ k : Nat, k ≤ n2 ∧ i = .int .i64 k ∧ InTwo w wr (.slice a1 n1 c1) (.slice a2 n2 c2) (.slice a3 n1 c3) (.slice a4 n2 c4) ∧ Hid (q = eqFrom trE n.trans m.trans k)) (fun i _ => n2 - (intOf i).toNat)
      case atStart => exact ⟨0, by omega, rfl, Hin.out, HQ2⟩
      case round =>
        rename World => v2
        obtain ⟨k, hk, rfl, hin, Hk⟩ := hrel
        obtain ⟨b0, b1, b2, b3, blt⟩ := hin.cells
        by_cases hlt : k < n2
        · obtain ⟨⟨xn, xd, xp, xi, xt, xo⟩, hx⟩ := at_lt (l := n.trans) (k := k) (by rw [← Hn2.out]; exact hlt)
          obtain ⟨⟨yn, yd, yp, yi, yt, yo⟩, hy⟩ := at_lt (l := m.trans) (k := k) (by rw [← Hn4.out]; exact hlt)
          have hlti : (k : Int) < (n2 : Int) := by omega
          obtain ⟨b5, off5, p1, r1, p2, r2, p3, r3, rfl, hb5, e0, e1, e2, e3, e4, e5, A1, A2, A3⟩ := (G2.out.below hin.below).at_ (i := k) (t := ⟨xn, xd, xp, xi, xt, xo⟩) (by rw [Hl.out]; exact hx)
          obtain ⟨b6, off6, p4, r4, p5, r5, p6, r6, rfl, hb6, d0, d1, d2, d3, d4, d5, B1, B2, B3⟩ := (G4.out.below hin.below).at_ (i := k) (t := ⟨yn, yd, yp, yi, yt, yo⟩) (by rw [Hl'.out]; exact hy)
          simp only at e0 e1 e2 e3 e4 e5 d0 d1 d2 d3 d4 d5 A1 A2 A3 B1 B2 B3
          have Hs : Hid (eqFrom trE n.trans m.trans k = (trE ⟨xn, xd, xp, xi, xt, xo⟩ ⟨yn, yd, yp, yi, yt, yo⟩ && eqFrom trE n.trans m.trans (k + 1))) := Lib.hid (eqFrom_step hx hy)
          have hW0 := hin.go (((Below.refl _ v2).alloc (Nat.le_refl _) (.cells #[.string xn, .int .i64 xd, .int .i64 xp, .slice p1 xi.length r1, .slice p2 xt.length r2, .slice p3 xo.length r3] 79)).alloc (by simp) (.cells #[.string yn, .int .i64 yd, .int .i64 yp, .slice p4 yi.length r4, .slice p5 yt.length r5, .slice p6 yo.length r6] 79))
          have HW0 := Lib.hid hW0
          have bl2 : Below v2.heap.size v2 ((v2.alloc (.cells #[.string xn, .int .i64 xd, .int .i64 xp, .slice p1 xi.length r1, .slice p2 xt.length r2, .slice p3 xo.length r3] 79)).alloc (.cells #[.string yn, .int .i64 yd, .int .i64 yp, .slice p4 yi.length r4, .slice p5 yt.length r5, .slice p6 yo.length r6] 79)) := ((Below.refl _ v2).alloc (Nat.le_refl _) _).alloc (by simp) _
          have C1 := Lib.hid (sameArcs_any rfl rfl (A1.below bl2) (B1.below bl2))
          have D2 := Lib.hid (fun (w' : World) (hb : Below v2.heap.size v2 w') => sameArcs_any rfl rfl (A2.below hb) (B2.below hb))
          have D3 := Lib.hid (fun (w' : World) (hb : Below v2.heap.size v2 w') => sameArcs_any rfl rfl (A3.below hb) (B3.below hb))
          have Hin := Lib.hid hin
          have Hbl2 := Lib.hid bl2
          have hst := sEq_toList xn yn
          have Htr : Hid (trE ⟨xn, xd, xp, xi, xt, xo⟩ ⟨yn, yd, yp, yi, yt, yo⟩ = (sEq xn yn && ((xd == yd) && ((xp == yp) && (eqL arcE xi yi && (eqL arcE xt yt && eqL arcE xo yo)))))) := Lib.hid rfl
          clear hx hy hin hW0 bl2 A1 A2 A3 B1 B2 B3
          cases g1 : sEq xn yn with
          | false =>
            rw [g1] at hst
            obtain rfl : q = false := by rw [Hk.out, Hs.out, Htr.out, g1]; rfl
            clear g1
            go_wp2
            go_ret
            exact ⟨rfl, HW0.out.below⟩
          | true =>
          rw [g1] at hst
          by_cases g2' : ¬ xd = yd
          · have g2 : (xd == yd) = false := by simpa using g2'
            obtain rfl : q = false := by rw [Hk.out, Hs.out, Htr.out, g1, g2]; rfl
            clear g1
            go_wp2
            go_ret
            exact ⟨rfl, HW0.out.below⟩
          have g2 : xd = yd := by omega
          subst g2
          have g2 : (xd == xd) = true := by simp
          by_cases g3' : ¬ xp = yp
          · have g3 : (xp == yp) = false := by simpa using g3'
            obtain rfl : q = false := by rw [Hk.out, Hs.out, Htr.out, g1, g2, g3]; rfl
            clear g1
            go_wp2
            go_ret
            exact ⟨rfl, HW0.out.below⟩
          have g3 : xp = yp := by omega
          subst g3
          have g3 : (xp == xp) = true := by simp
          have Hg1 := Lib.hid g1
          have Hg2 := Lib.hid g2
          have Hg3 := Lib.hid g3
          clear g1 g2 g2' g3 g3'
          cases g4 : eqL arcE xi yi with
          | false =>
            have Hg4 := Lib.hid g4
            obtain rfl : q = false := by rw [Hk.out, Hs.out, Htr.out, Hg1.out, Hg2.out, Hg3.out, g4]; rfl
            rw [g4] at C1
            clear g4
            go_wp2_with fail
            refine C1.out.mono ?_
            rintro e w5 ⟨rfl, hb5'⟩
            have HW5 := Lib.hid (HW0.out.go hb5')
            clear hb5'
            go_wp2
            go_ret
            exact ⟨rfl, HW5.out.below⟩
          | true =>
          have Hg4 := Lib.hid g4
          rw [g4] at C1
          clear g4
          go_wp2_with fail
          refine C1.out.mono ?_
          rintro e w5 ⟨rfl, hb5'⟩
          have HW5 := Lib.hid (HW0.out.go hb5')
          have x4 : w5.cell? ⟨v2.heap.size, 4, none⟩ = some (.slice p2 xt.length r2) := (below_cells hb5' _ _ (by simp <;> omega)).trans (by go_simp)
          have x5 : w5.cell? ⟨v2.heap.size, 5, none⟩ = some (.slice p3 xo.length r3) := (below_cells hb5' _ _ (by simp <;> omega)).trans (by go_simp)
          have y4 : w5.cell? ⟨v2.heap.size + 1, 4, none⟩ = some (.slice p5 yt.length r5) := (below_cells hb5' _ _ (by simp <;> omega)).trans (by go_simp)
          have y5 : w5.cell? ⟨v2.heap.size + 1, 5, none⟩ = some (.slice p6 yo.length r6) := (below_cells hb5' _ _ (by simp <;> omega)).trans (by go_simp)
          have hlt5 : v2.heap.size + 1 < w5.heap.size := by have := hb5'.size; simp at this; omega
          have hbv : Below v2.heap.size v2 w5 := Hbl2.out.trans (hb5'.mono Hbl2.out.size)
          have C2 := Lib.hid (D2.out w5 hbv)
          have Hbv := Lib.hid hbv
          clear hb5' hbv C1
          cases g5 : eqL arcE xt yt with
          | false =>
            obtain rfl : q = false := by rw [Hk.out, Hs.out, Htr.out, Hg1.out, Hg2.out, Hg3.out, Hg4.out, g5]; rfl
            rw [g5] at C2
            clear g5
            go_wp2_with fail
            refine C2.out.mono ?_
            rintro e w6 ⟨rfl, hb6'⟩
            have HW6 := Lib.hid (HW5.out.go hb6')
            clear hb6'
            go_wp2
            go_ret
            exact ⟨rfl, HW6.out.below⟩
          | true =>
          have Hg5 := Lib.hid g5
          rw [g5] at C2
          clear g5
          go_wp2_with fail
          refine C2.out.mono ?_
          rintro e w6 ⟨rfl, hb6'⟩
          have HW6 := Lib.hid (HW5.out.go hb6')
          have x6 : w6.cell? ⟨v2.heap.size, 5, none⟩ = some (.slice p3 xo.length r3) := (below_cells hb6' _ _ (by omega)).trans x5
          have y6 : w6.cell? ⟨v2.heap.size + 1, 5, none⟩ = some (.slice p6 yo.length r6) := (below_cells hb6' _ _ (by omega)).trans y5
          have hlt6 : v2.heap.size + 1 < w6.heap.size := by have := hb6'.size; omega
          have C3 := Lib.hid (D3.out w6 (Hbv.out.trans (hb6'.mono Hbv.out.size)))
          clear hb6' C2 x4 x5 y4 y5
          cases g6 : eqL arcE xo yo with
          | false =>
            obtain rfl : q = false := by rw [Hk.out, Hs.out, Htr.out, Hg1.out, Hg2.out, Hg3.out, Hg4.out, Hg5.out, g6]; rfl
            rw [g6] at C3
            clear g6
            go_wp2_with fail
            refine C3.out.mono ?_
            rintro e w7 ⟨rfl, hb7'⟩
            have HW7 := Lib.hid (HW6.out.go hb7')
            clear hb7'
            go_wp2
            go_ret
            exact ⟨rfl, HW7.out.below⟩
          | true =>
          have Hr : Hid (q = eqFrom trE n.trans m.trans (k + 1)) := Lib.hid (by rw [Hk.out, Hs.out, Htr.out, Hg1.out, Hg2.out, Hg3.out, Hg4.out, Hg5.out, g6]; rfl)
          rw [g6] at C3
          clear g6
          go_wp2_with fail
          refine C3.out.mono ?_
          rintro e w7 ⟨rfl, hb7'⟩
          have HW7 := Lib.hid (HW6.out.go hb7')
          clear hb7' C3 x6 y6
          go_wp2
          go_roundw
          case rel => exact ⟨k + 1, by omega, by go_num, HW7.out, Hr⟩
          case measure => simp [intOf]; omega
        · have hge : ¬ (k : Int) < (n2 : Int) := by omega
          have Hr : Hid (q = true) := Lib.hid (by rw [Hk.out]; exact eqFrom_end (by rw [← Hn2.out]; omega) (by rw [← Hn4.out]; omega))
          have Hin := Lib.hid hin
          clear hin
          go_wp2
          go_ret
          exact ⟨by rw [Hr.out]; rfl, Hin.out.below⟩
end Go.Proofs.Ytpbbdnicafifpaa
