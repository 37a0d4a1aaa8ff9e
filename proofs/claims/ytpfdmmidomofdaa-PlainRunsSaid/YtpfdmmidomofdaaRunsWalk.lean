/-
  The walk of the law PlainRuns: any run, firing by firing, is the document's own.
  Conditions: none beyond the theorems' own.
-/
import Derived.Test.YtpfdmmidomofdaaRunJ
import Derived.Test.YtpfdmmidomofdaaR9R
import Derived.Test.YtpfdmmidomofdaaR9S
import Derived.Test.YtpfdmmidomofdaaNearIn
namespace Go.Proofs.Ytpfdmmidomofdaa
open Go.RowKit
set_option linter.unusedVariables false

set_option maxRecDepth 100000 in
set_option maxHeartbeats 4000000 in
theorem runs_big {w : World} {aT aA : Option Addr} {cTok cA nT nA : Nat} {hz : Nat} (h : 60 < nT ∨ 12 < nA) :
    Calls Try.prog 3 #[.agg #[.slice aT nT cTok, .slice aA nA cA], .int .u8 hz] w fun e w' => e = .returned (.bool true) ∧ Below w.heap.size w w' := by
  have Hfew : Hid (false = (decide (nT ≤ 60) && decide (nA ≤ 12))) := Lib.hid (by rcases h with h | h <;> simp <;> omega)
  clear h
  go_enter Try.func3, Try.ntmps3
  go_wp2_with fail
  refine (awake9 _).mono ?_
  rintro e w1 ⟨rfl, hb⟩
  have hi := (InBx.start 25 w (.slice aT nT cTok) (.slice aA nA cA)).go hb
  have b0 := hi.c0
  have b1 := hi.c1
  have Hi := Lib.hid hi
  clear hb hi
  go_wp2_with fail
  refine (few_any false Hfew.out).mono ?_
  rintro e w2 ⟨rfl, hb2⟩
  have Hi2 := Lib.hid (Hi.out.go hb2)
  clear b0 b1 hb2
  go_wp2_with fail
  refine (awake9 _).mono ?_
  rintro e w3 ⟨rfl, hb3⟩
  have Hi3 := Lib.hid (Hi2.out.go hb3)
  clear hb3
  go_wp2
  go_ret
  exact ⟨rfl, Hi3.out.old⟩

set_option maxRecDepth 100000 in
set_option maxHeartbeats 4000000 in
theorem runs_small {w : World} {aT aA : Option Addr} {cTok cA : Nat} {hz : Nat} {ts : List Nat} {acs : List Ac} (h : DraftAt w (.slice aT ts.length cTok) (.slice aA acs.length cA) ts acs) (h60 : ts.length ≤ 60) (h12 : acs.length ≤ 12) :
    Calls Try.prog 3 #[.agg #[.slice aT ts.length cTok, .slice aA acs.length cA], .int .u8 hz] w fun e w' => e = .returned (.bool true) ∧ Below w.heap.size w w' := by
  have Hmake : Hid (∀ W : World, Below w.heap.size w W → Calls Try.prog 14 #[.agg #[.slice aT ts.length cTok, .slice aA acs.length cA]] W fun e w' => ∃ vp vt, e = .returned (.agg #[vp, vt]) ∧ NetOwn W.heap.size w' vp vt (makeN ts acs) ∧ Below W.heap.size W w') := Lib.hid (fun W hW => make_any (h.below hW))
  have Hchk := Lib.hid (makeN_check (ts := ts) h.ok)
  have Hnm := Lib.hid (makeN_names9 ts acs)
  have Hpos : Hid (1 ≤ (makeN ts acs).places.length) := Lib.hid (by have := cntP_bd ts; rw [show (makeN ts acs).places.length = cntP ts from plsOf_len _ _]; omega)
  obtain ⟨N, hN⟩ : ∃ N, N = makeN ts acs := ⟨_, rfl⟩
  rw [← hN] at Hmake Hchk Hnm Hpos
  obtain ⟨nT, hnT⟩ : ∃ k, k = ts.length := ⟨_, rfl⟩
  obtain ⟨nA, hnA⟩ : ∃ k, k = acs.length := ⟨_, rfl⟩
  rw [← hnT, ← hnA] at Hmake ⊢
  have Hfew : Hid (true = (decide (nT ≤ 60) && decide (nA ≤ 12))) := Lib.hid (by simp; omega)
  clear h hnT hnA h60 h12 hN
  go_enter Try.func3, Try.ntmps3
  go_wp2_with fail
  refine (awake9 _).mono ?_
  rintro e w1 ⟨rfl, hb⟩
  have hi := (InBx.start 25 w (.slice aT nT cTok) (.slice aA nA cA)).go hb
  have b0 := hi.c0
  have b1 := hi.c1
  have Hi := Lib.hid hi
  clear hb hi
  go_wp2_with fail
  refine (few_any true Hfew.out).mono ?_
  rintro e w2 ⟨rfl, hb2⟩
  clear b0 b1
  have hi := Hi.out.go hb2
  have b0 := hi.c0
  have b1 := hi.c1
  have Hi2 := Lib.hid hi
  clear hb2 hi
  go_wp2_with fail
  refine (Hmake.out _ Hi2.out.old).mono ?_
  rintro e w3 ⟨vp, vt, rfl, hno, hb3⟩
  have hna := hno.at_
  obtain ⟨a1, np, c1, a2, nt, c2, rfl, rfl, hnp, hnt⟩ := hna.form2
  have Hi3 := Lib.hid (Hi2.out.go hb3)
  have hnew : Below w3.heap.size w3 (w3.alloc (.cells #[.slice a1 np c1, .slice a2 nt c2] 31)) := (Below.refl _ _).alloc (Nat.le_refl _) _
  have Hrun := Lib.hid (fun hh W (hW : Below w3.heap.size w3 W) => run_any (w := W) (h := hh) hnp hnt (hna.below hW) Hnm.out Hchk.out)
  have Hnew := Lib.hid hnew
  have HB3 := Lib.hid Hi3.out.old
  have Hna3 := Lib.hid hna
  have Hnt := Lib.hid hnt
  have Hnp := Lib.hid hnp
  clear hno hb3 b0 b1 hna hnew hnt hnp
  go_wp2_with fail
  refine (Hrun.out _ _ Hnew.out).mono ?_
  rintro e w5 ⟨al, nl, cl, bm, cm, bw, nw, rfl, hnl, hnw, hres, hb5⟩
  have hnw2 := hnw.symm
  clear hnw
  subst hnw2
  have hI := runN_inv (checkN_nok Hchk.out) ((hz : Int) % 40 - 1)
  obtain ⟨A, hA⟩ : ∃ A, A = runN N ((hz : Int) % 40 - 1) := ⟨_, rfl⟩
  have Hr9 := Lib.hid (fun W (hW : Below w3.heap.size w3 W) => rrun_any (w := W) (h := (hz : Int) % 40 - 1) Hnp.out Hnt.out (Hna3.out.below hW) (checkN_nok Hchk.out))
  rw [← hA] at hI hnl hres Hr9 ⊢
  have hnm : np = A.1.m.length := by rw [hI.len, Hnp.out]
  obtain ⟨u, tp, ep⟩ := A
  simp only at hI hnl hres hnm Hr9 ⊢
  simp only [resV]
  have hn0 : (w3.alloc (.cells #[.slice a1 np c1, .slice a2 nt c2] 31)).cell? ⟨w3.heap.size, 0, none⟩ = some (.slice a1 np c1) := by go_simp
  have hn1 : (w3.alloc (.cells #[.slice a1 np c1, .slice a2 nt c2] 31)).cell? ⟨w3.heap.size, 1, none⟩ = some (.slice a2 nt c2) := by go_simp
  have m0 := (below_cells hb5 w3.heap.size 0 (by simp)).trans hn0
  have m1 := (below_cells hb5 w3.heap.size 1 (by simp)).trans hn1
  have m2 : w3.heap.size < w5.heap.size := by have := hb5.size; simp at this; omega
  have hb35 : Below w3.heap.size w3 w5 := Hnew.out.trans (hb5.mono Hnew.out.size)
  have hb6 : Below w5.heap.size w5 (w5.alloc (.cells #[.slice al nl cl, .slice (some ⟨bm, 0, none⟩) np cm, .slice (some ⟨bw, 0, none⟩) np np, .int .i64 tp] 36)) := (Below.refl _ _).alloc (Nat.le_refl _) _
  have hb36 := hb35.trans (hb6.mono hb35.size)
  have Hb36 := Lib.hid hb36
  have Hf6 := Lib.hid (And.intro (FisAt.below hres.1 hb6) (And.intro (IntsAt.below hres.2.1 hb6) (IntsAt.below hres.2.2 hb6)))
  have Hnl := Lib.hid hnl
  have Hnm := Lib.hid hnm
  have hp0 : ∀ j v, [Value.slice al nl cl, .slice (some ⟨bm, 0, none⟩) np cm, .slice (some ⟨bw, 0, none⟩) np np, .int .i64 tp][j]? = some v → (w5.alloc (.cells #[.slice al nl cl, .slice (some ⟨bm, 0, none⟩) np cm, .slice (some ⟨bw, 0, none⟩) np np, .int .i64 tp] 36)).cell? ⟨w5.heap.size, j, none⟩ = some v := fun j v hj => by
    rw [cell_of_row _ _ j _ _ (0, 0) (heap_alloc_new w5 (.cells #[.slice al nl cl, .slice (some ⟨bm, 0, none⟩) np cm, .slice (some ⟨bw, 0, none⟩) np np, .int .i64 tp] 36))]; rw [← hj]; simp
  have Hp0 := Lib.hid hp0
  clear hI hnl hres hnm hb5 hb35 hb6 hb36 hn0 hn1 hp0 hA Hrun
  go_wp2_with fail
  refine (Hr9.out _ Hb36.out).mono ?_
  rintro e w7 ⟨aq, lq, cq, am2, cm2, aw2, cw2, rfl, hlq, hres2, hb7⟩
  obtain rfl : lq = nl := by rw [hlq, Hnl.out]
  simp only [resV]
  have hb8 : Below w7.heap.size w7 (w7.alloc (.cells #[.slice aq lq cq, .slice am2 np cm2, .slice aw2 np cw2, .int .i64 tp] 36)) := (Below.refl _ _).alloc (Nat.le_refl _) _
  have h57 : w5.heap.size < w7.heap.size := by have := hb7.size; simp at this; omega
  have hb68 := hb7.trans (hb8.mono hb7.size)
  have g0 := (below_cells hb68 w5.heap.size 0 (by simp)).trans (Hp0.out 0 _ rfl)
  have g1 := (below_cells hb68 w5.heap.size 1 (by simp)).trans (Hp0.out 1 _ rfl)
  have g2 := (below_cells hb68 w5.heap.size 2 (by simp)).trans (Hp0.out 2 _ rfl)
  have g3 := (below_cells hb68 w5.heap.size 3 (by simp)).trans (Hp0.out 3 _ rfl)
  have hr1 : ResAt (w7.alloc (.cells #[.slice aq lq cq, .slice am2 np cm2, .slice aw2 np cw2, .int .i64 tp] 36)) (.slice al lq cl) (.slice (some ⟨bm, 0, none⟩) np cm) (.slice (some ⟨bw, 0, none⟩) np np) u := ⟨FisAt.below Hf6.out.1 hb68, IntsAt.below Hf6.out.2.1 hb68, IntsAt.below Hf6.out.2.2 hb68⟩
  have hr2 : ResAt (w7.alloc (.cells #[.slice aq lq cq, .slice am2 np cm2, .slice aw2 np cw2, .int .i64 tp] 36)) (.slice aq lq cq) (.slice am2 np cm2) (.slice aw2 np cw2) u := ⟨FisAt.below hres2.1 hb8, IntsAt.below hres2.2.1 hb8, IntsAt.below hres2.2.2 hb8⟩
  have HS := Lib.hid (rsame_same (t := tp) hlq Hnm.out rfl hr1 hr2)
  have HW := Lib.hid (HB3.out.trans ((Hb36.out.trans (hb68.mono Hb36.out.size)).mono HB3.out.size))
  have gs : w5.heap.size < (w7.alloc (.cells #[.slice aq lq cq, .slice am2 np cm2, .slice aw2 np cw2, .int .i64 tp] 36)).heap.size := by simp; omega
  clear hb7 hb8 hb68 hr1 hr2 hres2 hlq m0 m1 m2 Hr9 h57
  have hee : (ep == ep) = true := by simp
  unfold resV at HS
  go_wp2_with fail
  refine HS.out.mono ?_
  rintro e w9 ⟨rfl, hb9⟩
  have HF := Lib.hid (HW.out.trans (hb9.mono HW.out.size))
  clear hb9 g0 g1 g2 g3 gs
  go_wp2
  go_ret
  exact ⟨rfl, HF.out⟩

theorem runs_law {w : World} {aT aA : Option Addr} {cTok cA : Nat} {hz : Int} (uz : (Lit.int .u8 hz).wf = true) {ts : List Nat} {acs : List Ac} (h : DraftAt w (.slice aT ts.length cTok) (.slice aA acs.length cA) ts acs) :
    Calls Try.prog 3 #[.agg #[.slice aT ts.length cTok, .slice aA acs.length cA], .int .u8 hz] w fun e w' => e = .returned (.bool true) ∧ Below w.heap.size w w' := by
  obtain ⟨hz, rfl, _⟩ := u8_nat uz
  by_cases h60 : ts.length ≤ 60
  · by_cases h12 : acs.length ≤ 12
    · exact runs_small h h60 h12
    · exact runs_big (.inr (by omega))
  · exact runs_big (.inl (by omega))
end Go.Proofs.Ytpfdmmidomofdaa
