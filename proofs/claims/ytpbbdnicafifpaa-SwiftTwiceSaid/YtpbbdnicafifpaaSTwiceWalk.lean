/-
  The walk of the law SwiftTwice: one net run twice, and twice as far: the same, and more of it; what is handed in stays.
  Conditions: none beyond the theorems' own.
-/
import Derived.Test.YtpbbdnicafifpaaAwake10
import Derived.Test.YtpbbdnicafifpaaFew10
import Derived.Test.YtpbbdnicafifpaaR9S
import Derived.Test.YtpbbdnicafifpaaFarM
import Derived.Test.YtpbbdnicafifpaaSameW
import Derived.Deep.RegionHeld3
namespace Go.Proofs.Ytpbbdnicafifpaa
open Go.RowKit
set_option linter.unusedVariables false

set_option maxRecDepth 100000 in
set_option maxHeartbeats 4000000 in
theorem stwice_big {w : World} {aT aA : Option Addr} {cTok cA nT nA : Nat} {hz : Nat} (h : 60 < nT ∨ 12 < nA) :
    Calls Try.prog 13 #[.agg #[.slice aT nT cTok, .slice aA nA cA], .int .u8 hz] w fun e w' => e = .returned (.bool true) ∧ Below w.heap.size w w' := by
  have Hfew : Hid (false = (decide (nT ≤ 60) && decide (nA ≤ 12))) := Lib.hid (by rcases h with h | h <;> simp <;> omega)
  clear h
  go_enter Try.func13, Try.ntmps13
  go_wp2_with fail
  refine (awake10 _).mono ?_
  rintro e w1 ⟨rfl, hb⟩
  have hi := (InBx.start 25 w (.slice aT nT cTok) (.slice aA nA cA)).go hb
  have b0 := hi.c0
  have b1 := hi.c1
  have Hi := Lib.hid hi
  clear hb hi
  go_wp2_with fail
  refine (few10_any false Hfew.out).mono ?_
  rintro e w2 ⟨rfl, hb2⟩
  have Hi2 := Lib.hid (Hi.out.go hb2)
  clear b0 b1 hb2
  go_wp2_with fail
  refine (awake10 _).mono ?_
  rintro e w3 ⟨rfl, hb3⟩
  have Hi3 := Lib.hid (Hi2.out.go hb3)
  clear hb3
  go_wp2
  go_ret
  exact ⟨rfl, Hi3.out.old⟩

set_option maxRecDepth 100000 in
set_option maxHeartbeats 4000000 in
theorem stwice_small {w : World} {aT aA : Option Addr} {cTok cA : Nat} {hz : Nat} {ts : List Nat} {acs : List Ac} (h : DraftAt w (.slice aT ts.length cTok) (.slice aA acs.length cA) ts acs) (h60 : ts.length ≤ 60) (h12 : acs.length ≤ 12) :
    Calls Try.prog 13 #[.agg #[.slice aT ts.length cTok, .slice aA acs.length cA], .int .u8 hz] w fun e w' => e = .returned (.bool true) ∧ Below w.heap.size w w' := by
  have Hmake : Hid (∀ W : World, Below w.heap.size w W → Calls Try.prog 16 #[.agg #[.slice aT ts.length cTok, .slice aA acs.length cA]] W fun e w' => ∃ vp vt, e = .returned (.agg #[vp, vt]) ∧ NetOwn W.heap.size w' vp vt (makeN ts acs) ∧ Below W.heap.size W w') := Lib.hid (fun W hW => make_any (h.below hW))
  have Hchk := Lib.hid (makeN_check (ts := ts) h.ok)
  have Hnm := Lib.hid (makeN_names9 ts acs)
  have Hpos : Hid (1 ≤ (makeN ts acs).places.length) := Lib.hid (by have := cntP_bd ts; rw [show (makeN ts acs).places.length = cntP ts from plsOf_len _ _]; omega)
  obtain ⟨N, hN⟩ : ∃ N, N = makeN ts acs := ⟨_, rfl⟩
  rw [← hN] at Hmake Hchk Hnm Hpos
  obtain ⟨nT, hnT⟩ : ∃ k, k = ts.length := ⟨_, rfl⟩
  obtain ⟨nA, hnA⟩ : ∃ k, k = acs.length := ⟨_, rfl⟩
  rw [← hnT, ← hnA] at Hmake ⊢
  have Hfew : Hid (true = (decide (nT ≤ 60) && decide (nA ≤ 12))) := Lib.hid (by simp; omega)
  clear h hnT hnA h60 h12 hN
  go_enter Try.func13, Try.ntmps13
  go_wp2_with fail
  refine (awake10 _).mono ?_
  rintro e w1 ⟨rfl, hb⟩
  have hi := (InBx.start 25 w (.slice aT nT cTok) (.slice aA nA cA)).go hb
  have b0 := hi.c0
  have b1 := hi.c1
  have Hi := Lib.hid hi
  clear hb hi
  go_wp2_with fail
  refine (few10_any true Hfew.out).mono ?_
  rintro e w2 ⟨rfl, hb2⟩
  clear b0 b1
  have hi := Hi.out.go hb2
  have b0 := hi.c0
  have b1 := hi.c1
  have Hi2 := Lib.hid hi
  clear hb2 hi
  go_wp2_with fail
  refine (Hmake.out _ Hi2.out.old).mono ?_
  rintro e w3 ⟨vp, vt, rfl, hno, hb3⟩
  have hna := hno.at_
  obtain ⟨a1, np, c1, a2, nt, c2, rfl, rfl, hnp, hnt⟩ := hna.form2
  have Hi3 := Lib.hid (Hi2.out.go hb3)
  have hnew : Below w3.heap.size w3 (w3.alloc (.cells #[.slice a1 np c1, .slice a2 nt c2] 31)) := (Below.refl _ _).alloc (Nat.le_refl _) _
  have Hnew := Lib.hid hnew
  have HB3 := Lib.hid Hi3.out.old
  have Hna3 := Lib.hid hna
  have Hnt := Lib.hid hnt
  have Hnp := Lib.hid hnp
  clear hno hb3 b0 b1 hna hnew hnt hnp
  have Hn0 := Hna3
  have Hmk : Hid (∀ W : World, Below w3.heap.size w3 W → Calls Try.prog 16 #[.agg #[.slice aT nT cTok, .slice aA nA cA]] W fun e w' => ∃ a3 n3 c3 a4 n4 c4, e = .returned (.agg #[.slice a3 n3 c3, .slice a4 n4 c4]) ∧ (NetAt w' (.slice a3 n3 c3) (.slice a4 n4 c4) N ∧ n3 = N.places.length ∧ n4 = N.trans.length) ∧ Below W.heap.size W w') := Lib.hid (fun W hW => (Hmake.out W (HB3.out.trans (hW.mono HB3.out.size))).mono (by
    rintro e w' ⟨vp, vt, rfl, hno, hb⟩
    have hn := hno.at_
    obtain ⟨a3, n3, c3, a4, n4, c4, rfl, rfl, e3, e4⟩ := hn.form2
    exact ⟨a3, n3, c3, a4, n4, c4, rfl, ⟨hn, e3, e4⟩, hb⟩))
  have Hsm : Hid (∀ W : World, Below w3.heap.size w3 W → ∀ a3 n3 c3 a4 n4 c4, (NetAt W (.slice a3 n3 c3) (.slice a4 n4 c4) N ∧ n3 = N.places.length ∧ n4 = N.trans.length) → Calls Try.prog 41 #[.agg #[.slice a1 np c1, .slice a2 nt c2], .agg #[.slice a3 n3 c3, .slice a4 n4 c4]] W fun e w' => e = .returned (.bool true) ∧ Below W.heap.size W w') := Lib.hid (fun W hW a3 n3 c3 a4 n4 c4 hn => by
    have h := same_any Hnp.out Hnt.out hn.2.1 hn.2.2 (Hna3.out.below hW) hn.1
    rw [sameN_refl] at h
    exact h)
  have hI := runN_inv (checkN_nok Hchk.out) ((hz : Int) % 20)
  have hJ := runN_inv (checkN_nok Hchk.out) (2 * ((hz : Int) % 20))
  have hfar := runN_far (checkN_nok Hchk.out) (x := (hz : Int) % 20) (y := 2 * ((hz : Int) % 20)) (by omega) (by omega)
  obtain ⟨A, hA⟩ : ∃ A, A = runN N ((hz : Int) % 20) := ⟨_, rfl⟩
  obtain ⟨B, hB⟩ : ∃ B, B = runN N (2 * ((hz : Int) % 20)) := ⟨_, rfl⟩
  have Hsr := Lib.hid (fun W (hW : Below w3.heap.size w3 W) => srun_any (w := W) (h := (hz : Int) % 20) Hnp.out Hnt.out (Hna3.out.below hW) Hnm.out Hchk.out)
  have Hsf := Lib.hid (fun W (hW : Below w3.heap.size w3 W) => srun_any (w := W) (h := 2 * ((hz : Int) % 20)) Hnp.out Hnt.out (Hna3.out.below hW) Hnm.out Hchk.out)
  unfold SRes at Hsr Hsf
  rw [← hA] at hI hfar Hsr
  rw [← hB] at hJ hfar Hsf
  have hnm : np = A.1.m.length := by rw [hI.len, Hnp.out]
  obtain ⟨u, tp, ep⟩ := A
  obtain ⟨v, tv, ev⟩ := B
  obtain ⟨⟨rr, hrr, -⟩, -⟩ := hfar
  simp only at hI hnm Hsr Hsf hrr
  have Hrr := Lib.hid hrr
  have Hnmm := Lib.hid hnm
  obtain ⟨nl, hnl⟩ : ∃ nl, nl = u.log.length := ⟨_, rfl⟩
  have Hnl := Lib.hid hnl
  clear hI hJ hnm hA hB hnl hrr
  go_wp2_with fail
  refine (Hsr.out _ Hnew.out).mono ?_
  rintro e w5 ⟨al, nl1, cl, am, cm, aw, cw, rfl, hnl1, hres, hb5⟩
  obtain rfl : nl1 = nl := by rw [hnl1, Hnl.out]
  simp only [resV]
  have hn0 : (w3.alloc (.cells #[.slice a1 np c1, .slice a2 nt c2] 31)).cell? ⟨w3.heap.size, 0, none⟩ = some (.slice a1 np c1) := by go_simp
  have hn1 : (w3.alloc (.cells #[.slice a1 np c1, .slice a2 nt c2] 31)).cell? ⟨w3.heap.size, 1, none⟩ = some (.slice a2 nt c2) := by go_simp
  have m0 := (below_cells hb5 w3.heap.size 0 (by simp)).trans hn0
  have m1 := (below_cells hb5 w3.heap.size 1 (by simp)).trans hn1
  have m2 : w3.heap.size < w5.heap.size := by have := hb5.size; simp at this; omega
  obtain ⟨w6, hw6⟩ : ∃ w6, w6 = w5.alloc (.cells #[.slice al nl1 cl, .slice am np cm, .slice aw np cw, .int .i64 tp] 51) := ⟨_, rfl⟩
  have hb56 : Below w5.heap.size w5 w6 := by rw [hw6]; exact (Below.refl _ _).alloc (Nat.le_refl _) _
  have p0 : w6.cell? ⟨w5.heap.size, 0, none⟩ = some (.slice al nl1 cl) := by rw [hw6]; go_simp
  have p1 : w6.cell? ⟨w5.heap.size, 1, none⟩ = some (.slice am np cm) := by rw [hw6]; go_simp
  have p2 : w6.cell? ⟨w5.heap.size, 2, none⟩ = some (.slice aw np cw) := by rw [hw6]; go_simp
  have p3 : w6.cell? ⟨w5.heap.size, 3, none⟩ = some (.int .i64 tp) := by rw [hw6]; go_simp
  have pl : w5.heap.size < w6.heap.size := by rw [hw6]; simp
  have hb36 : Below w3.heap.size w3 w6 := (Hnew.out.trans (hb5.mono Hnew.out.size)).trans (hb56.mono (by omega))
  have Hb36 := Lib.hid hb36
  have Hres := Lib.hid (show ResAt w6 (.slice al nl1 cl) (.slice am np cm) (.slice aw np cw) u from ⟨FisAt.below hres.1 hb56, IntsAt.below hres.2.1 hb56, IntsAt.below hres.2.2 hb56⟩)
  have HP := Lib.hid (And.intro pl (And.intro p0 (And.intro p1 (And.intro p2 p3))))
  have HM := Lib.hid (And.intro (Nat.lt_trans m2 pl) (And.intro ((below_cells hb56 w3.heap.size 0 m2).trans m0) ((below_cells hb56 w3.heap.size 1 m2).trans m1)))
  obtain ⟨P, hP⟩ : ∃ P, P = w5.heap.size := ⟨_, rfl⟩
  have Hw6 := Lib.hid hw6
  have HPe := Lib.hid hP
  rw [← hP] at HP
  clear hnl1 hres hb5 hn0 hn1 m0 m1 hb56 p0 p1 p2 p3 pl hb36 hw6 hP m2
  obtain ⟨m2, m0, m1⟩ := HM.out
  go_upto_region 6 with (fail)
  rw [← Hw6.out, ← HPe.out]
  clear Hw6 HPe
  go_wp2_with fail
  refine (Hsr.out _ Hb36.out).mono ?_
  rintro e w7 ⟨aq, lq, cq, bm, cm2, bw, cw2, rfl, hlq, hres, hb7⟩
  obtain rfl : lq = nl1 := by rw [hlq, Hnl.out]
  simp only [resV]
  have hm0 := (below_cells hb7 w3.heap.size 0 m2).trans m0
  have hm1 := (below_cells hb7 w3.heap.size 1 m2).trans m1
  have hm2 : w3.heap.size < w7.heap.size := Nat.lt_of_lt_of_le m2 hb7.size
  obtain ⟨w8, hw8⟩ : ∃ w8, w8 = w7.alloc (.cells #[.slice aq lq cq, .slice bm np cm2, .slice bw np cw2, .int .i64 tp] 51) := ⟨_, rfl⟩
  have hb78 : Below w7.heap.size w7 w8 := by rw [hw8]; exact (Below.refl _ _).alloc (Nat.le_refl _) _
  have q0 : w8.cell? ⟨w7.heap.size, 0, none⟩ = some (.slice aq lq cq) := by rw [hw8]; go_simp
  have q1 : w8.cell? ⟨w7.heap.size, 1, none⟩ = some (.slice bm np cm2) := by rw [hw8]; go_simp
  have q2 : w8.cell? ⟨w7.heap.size, 2, none⟩ = some (.slice bw np cw2) := by rw [hw8]; go_simp
  have q3 : w8.cell? ⟨w7.heap.size, 3, none⟩ = some (.int .i64 tp) := by rw [hw8]; go_simp
  have ql : w7.heap.size < w8.heap.size := by rw [hw8]; simp
  have hb68 : Below w6.heap.size w6 w8 := hb7.trans (hb78.mono hb7.size)
  have Hb38 := Lib.hid (Hb36.out.trans (hb68.mono Hb36.out.size))
  have Hres2 := Lib.hid (show ResAt w8 (.slice aq lq cq) (.slice bm np cm2) (.slice bw np cw2) u from ⟨FisAt.below hres.1 hb78, IntsAt.below hres.2.1 hb78, IntsAt.below hres.2.2 hb78⟩)
  have HQ := Lib.hid (And.intro ql (And.intro q0 (And.intro q1 (And.intro q2 q3))))
  have HM2 := Lib.hid (And.intro (Nat.lt_trans hm2 ql) (And.intro ((below_cells hb78 w3.heap.size 0 hm2).trans hm0) ((below_cells hb78 w3.heap.size 1 hm2).trans hm1)))
  have Hb68 := Lib.hid hb68
  obtain ⟨Q, hQ⟩ : ∃ Q, Q = w7.heap.size := ⟨_, rfl⟩
  have Hw8 := Lib.hid hw8
  have HQe := Lib.hid hQ
  rw [← hQ] at HQ
  clear hlq hres hb7 hm0 hm1 hm2 hb78 q0 q1 q2 q3 ql hb68 hw8 hQ m0 m1 m2
  obtain ⟨m2, m0, m1⟩ := HM2.out
  go_upto_region 7 with (fail)
  rw [← Hw8.out, ← HQe.out]
  clear Hw8 HQe
  go_wp2_with fail
  refine (Hsf.out _ Hb38.out).mono ?_
  rintro e w9 ⟨ar, lr, cr, am3, cm3, aw3, cw3, rfl, hlr, hres3, hb9⟩
  simp only [resV]
  obtain ⟨w10, hw10⟩ : ∃ w10, w10 = w9.alloc (.cells #[.slice ar lr cr, .slice am3 np cm3, .slice aw3 np cw3, .int .i64 tv] 51) := ⟨_, rfl⟩
  have hb910 : Below w9.heap.size w9 w10 := by rw [hw10]; exact (Below.refl _ _).alloc (Nat.le_refl _) _
  have r0 : w10.cell? ⟨w9.heap.size, 0, none⟩ = some (.slice ar lr cr) := by rw [hw10]; go_simp
  have rl : w9.heap.size < w10.heap.size := by rw [hw10]; simp
  have hb810 : Below w8.heap.size w8 w10 := hb9.trans (hb910.mono hb9.size)
  have hb610 : Below w6.heap.size w6 w10 := Hb68.out.trans (hb810.mono Hb68.out.size)
  have hb310 : Below w3.heap.size w3 w10 := Hb38.out.trans (hb810.mono Hb38.out.size)
  obtain ⟨P1, P2, P3, P4, P5⟩ := HP.out
  obtain ⟨Q1, Q2, Q3, Q4, Q5⟩ := HQ.out
  have hr1 : ResAt w10 (.slice al lq cl) (.slice am np cm) (.slice aw np cw) u := ⟨FisAt.below Hres.out.1 hb610, IntsAt.below Hres.out.2.1 hb610, IntsAt.below Hres.out.2.2 hb610⟩
  have hr2 : ResAt w10 (.slice aq lq cq) (.slice bm np cm2) (.slice bw np cw2) u := ⟨FisAt.below Hres2.out.1 hb810, IntsAt.below Hres2.out.2.1 hb810, IntsAt.below Hres2.out.2.2 hb810⟩
  have hf3 : FisAt w10 (.slice ar lr cr) v.log := FisAt.below hres3.1 hb910
  have hcq := hf3
  obtain ⟨_, aq', cq', eaq, hcq1, hcq2, _⟩ := hcq
  injection eaq with ea1 ea2 ea3
  subst ea3
  subst ea1
  clear ea2
  rw [← hlr] at hcq1
  have hlen : lr = lq + rr.length := by rw [hlr, Hrr.out, List.length_append, ← Hnl.out]
  have hnle : lq ≤ lr := by omega
  have hfu : FisAt w10 (.slice ar lq cr) u.log := by
    have h1 := RowAt.take (size := 2) (w := w10) (n := lr) (xs := v.log.flatMap fiL) (a := ar) (cap := cr) (by rw [hlr] at hf3 ⊢; exact hf3) lq hnle
    have e : (v.log.flatMap fiL).take (lq * 2) = u.log.flatMap fiL := by
      rw [Hrr.out, List.flatMap_append, List.take_left' (by rw [flat_len fiL_len, ← Hnl.out])]
    rw [e] at h1
    have h2 := h1
    rw [Hnl.out] at h2 ⊢
    exact h2
  have HS1 := Lib.hid (fun (W : World) (hW : Below w10.heap.size w10 W) => rsame_same (w := W) (t := tp) Hnl.out Hnmm.out rfl ⟨FisAt.below hr1.1 hW, IntsAt.below hr1.2.1 hW, IntsAt.below hr1.2.2 hW⟩ ⟨FisAt.below hr2.1 hW, IntsAt.below hr2.2.1 hW, IntsAt.below hr2.2.2 hW⟩)
  have HS2 := Lib.hid (fun (W : World) (hW : Below w10.heap.size w10 W) => samelog_same (w := W) Hnl.out (FisAt.below hfu hW) (FisAt.below hr1.1 hW))
  have HS3 := Lib.hid (fun (W : World) (hW : Below w10.heap.size w10 W) => Hmk.out W (hb310.trans (hW.mono hb310.size)))
  have HS4 := Lib.hid (fun (W : World) (hW : Below w10.heap.size w10 W) => Hsm.out W (hb310.trans (hW.mono hb310.size)))
  have hdi := Hi3.out.go hb310
  have d0 := hdi.c0
  have d1 := hdi.c1
  have d2 : w.heap.size < w10.heap.size := hdi.size
  have M0 : ∀ W, Below w8.heap.size w8 W → W.cell? ⟨w3.heap.size, 0, none⟩ = some (.slice a1 np c1) := fun W hW => (below_cells hW w3.heap.size 0 m2).trans m0
  have M1 : ∀ W, Below w8.heap.size w8 W → W.cell? ⟨w3.heap.size, 1, none⟩ = some (.slice a2 nt c2) := fun W hW => (below_cells hW w3.heap.size 1 m2).trans m1
  obtain ⟨D, hD⟩ : ∃ D, D = w.heap.size := ⟨_, rfl⟩
  obtain ⟨M, hM⟩ : ∃ M, M = w3.heap.size := ⟨_, rfl⟩
  obtain ⟨R, hR⟩ : ∃ R, R = w9.heap.size := ⟨_, rfl⟩
  have HC : Hid (∀ W : World, Below w10.heap.size w10 W → W.cell? ⟨P, 0, none⟩ = some (.slice al lq cl) ∧ W.cell? ⟨P, 1, none⟩ = some (.slice am np cm) ∧ W.cell? ⟨P, 2, none⟩ = some (.slice aw np cw) ∧ W.cell? ⟨P, 3, none⟩ = some (.int .i64 tp) ∧ W.cell? ⟨Q, 0, none⟩ = some (.slice aq lq cq) ∧ W.cell? ⟨Q, 1, none⟩ = some (.slice bm np cm2) ∧ W.cell? ⟨Q, 2, none⟩ = some (.slice bw np cw2) ∧ W.cell? ⟨Q, 3, none⟩ = some (.int .i64 tp) ∧ W.cell? ⟨R, 0, none⟩ = some (.slice ar lr cr) ∧ W.cell? ⟨M, 0, none⟩ = some (.slice a1 np c1) ∧ W.cell? ⟨M, 1, none⟩ = some (.slice a2 nt c2) ∧ W.cell? ⟨D, 0, none⟩ = some (.slice aT nT cTok) ∧ W.cell? ⟨D, 1, none⟩ = some (.slice aA nA cA)) := Lib.hid (fun W hW => by
    have h6 := hb610.trans (hW.mono hb610.size)
    have h8 := hb810.trans (hW.mono hb810.size)
    refine ⟨(below_cells h6 P 0 P1).trans P2, (below_cells h6 P 1 P1).trans P3, (below_cells h6 P 2 P1).trans P4, (below_cells h6 P 3 P1).trans P5, (below_cells h8 Q 0 Q1).trans Q2, (below_cells h8 Q 1 Q1).trans Q3, (below_cells h8 Q 2 Q1).trans Q4, (below_cells h8 Q 3 Q1).trans Q5, ?_, ?_, ?_, ?_, ?_⟩
    · rw [hR]; exact (below_cells hW w9.heap.size 0 rl).trans r0
    · rw [hM]; exact M0 W h8
    · rw [hM]; exact M1 W h8
    · rw [hD]; exact (below_cells hW w.heap.size 0 d2).trans d0
    · rw [hD]; exact (below_cells hW w.heap.size 1 d2).trans d1)
  have hee : (ep == ep) = true := by simp
  have hge : (lq : Int) ≤ (lr : Int) := by omega
  have hge2 : decide ((lq : Int) ≤ (lr : Int)) = true := decide_eq_true hge
  have g2 : (lq : Int) ≤ (cr : Int) := by omega
  have HW := Lib.hid (HB3.out.trans (hb310.mono HB3.out.size))
  have H := Lib.hid ((Below.refl w10.heap.size w10).drew)
  have Hw10 := Lib.hid hw10
  have HRe := Lib.hid hR
  have HMe := Lib.hid hM
  have HDe := Lib.hid hD
  have kk := HC.out _ H.out
  unfold resV at HS1
  clear hlr hres3 hb9 hb910 hb810 hb610 hb310 hw10 hR hM hD P1 P2 P3 P4 P5 Q1 Q2 Q3 Q4 Q5 hr1 hr2 hf3 hfu m0 m1 m2 M0 M1 d0 d1 d2 hdi r0 rl hcq1 hcq2 hlen
  go_upto_region 8 with (fail)
  rw [← Hw10.out, ← HRe.out, ← HMe.out, ← HDe.out]
  go_region_held3 (fun w' => w'.cell? ⟨P, 0, none⟩ = some (.slice al lq cl) ∧ w'.cell? ⟨P, 1, none⟩ = some (.slice am np cm) ∧ w'.cell? ⟨P, 2, none⟩ = some (.slice aw np cw) ∧ w'.cell? ⟨P, 3, none⟩ = some (.int .i64 tp) ∧ w'.cell? ⟨Q, 0, none⟩ = some (.slice aq lq cq) ∧ w'.cell? ⟨Q, 1, none⟩ = some (.slice bm np cm2) ∧ w'.cell? ⟨Q, 2, none⟩ = some (.slice bw np cw2) ∧ w'.cell? ⟨Q, 3, none⟩ = some (.int .i64 tp) ∧ w'.cell? ⟨R, 0, none⟩ = some (.slice ar lr cr) ∧ w'.cell? ⟨M, 0, none⟩ = some (.slice a1 np c1) ∧ w'.cell? ⟨M, 1, none⟩ = some (.slice a2 nt c2) ∧ w'.cell? ⟨D, 0, none⟩ = some (.slice aT nT cTok) ∧ w'.cell? ⟨D, 1, none⟩ = some (.slice aA nA cA)) (first | go_keep | exact kk) (first | (go_simp; go_at_call 31; refine (HS1.out _ H.out).mono ?_; rintro e wa ⟨rfl, h4⟩; have H := Lib.hid (H.out.trans (h4.mono H.out.size)); have kk := HC.out _ H.out; clear h4) | (go_simp; go_at_call 39; refine (HS2.out _ H.out).mono ?_; rintro e wb ⟨rfl, h4⟩; have H := Lib.hid (H.out.trans (h4.mono H.out.size)); have kk := HC.out _ H.out; clear h4) | (go_simp; go_at_call 16; refine (HS3.out _ H.out).mono ?_; rintro e wc ⟨a3, n3, c3, a4, n4, c4, rfl, hn, h4⟩; have H := Lib.hid (H.out.trans (h4.mono H.out.size)); have HN := Lib.hid hn; have kk := HC.out _ H.out; clear h4 hn) | (go_simp; go_at_call 41; refine (HS4.out _ H.out _ _ _ _ _ _ HN.out).mono ?_; rintro e wd ⟨rfl, h4⟩; have H := Lib.hid (H.out.trans (h4.mono H.out.size)); have kk := HC.out _ H.out; clear h4))
  all_goals
    have HF := Lib.hid (HW.out.trans (H.out.mono HW.out.size))
    clear kk
    go_wp2
    go_ret
    exact ⟨rfl, HF.out⟩

theorem stwice_law {w : World} {aT aA : Option Addr} {cTok cA : Nat} {hz : Int} (uz : (Lit.int .u8 hz).wf = true) {ts : List Nat} {acs : List Ac} (h : DraftAt w (.slice aT ts.length cTok) (.slice aA acs.length cA) ts acs) :
    Calls Try.prog 13 #[.agg #[.slice aT ts.length cTok, .slice aA acs.length cA], .int .u8 hz] w fun e w' => e = .returned (.bool true) ∧ Below w.heap.size w w' := by
  obtain ⟨hz, rfl, _⟩ := u8_nat uz
  by_cases h60 : ts.length ≤ 60
  · by_cases h12 : acs.length ≤ 12
    · exact stwice_small h h60 h12
    · exact stwice_big (.inr (by omega))
  · exact stwice_big (.inl (by omega))
end Go.Proofs.Ytpbbdnicafifpaa
