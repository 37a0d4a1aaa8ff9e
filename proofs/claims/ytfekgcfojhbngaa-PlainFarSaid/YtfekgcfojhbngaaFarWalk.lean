/-
  The walk of the law PlainFar: with a farther horizon the beginning is the same; with none nothing happens.
  Conditions: none beyond the theorems' own.
-/
import Derived.Test.YtfekgcfojhbngaaRunJ
import Derived.Test.YtfekgcfojhbngaaFarM
import Derived.Test.YtfekgcfojhbngaaNew
import Derived.Test.YtfekgcfojhbngaaNearIn
namespace Go.Proofs.Ytfekgcfojhbngaa
open Go.RowKit
set_option linter.unusedVariables false

set_option maxRecDepth 100000 in
set_option maxHeartbeats 1000000 in
theorem samelog_same {w : World} {a b : Option Addr} {n c d : Nat} {l : List (Int × Int)} (hn : n = l.length) (h1 : FisAt w (.slice a n c) l) (h2 : FisAt w (.slice b n d) l) :
    Calls Try.prog 18 #[.slice a n c, .slice b n d] w fun e w' => e = .returned (.bool true) ∧ Below w.heap.size w w' := by
  have hmax : n ≤ 9223372036854775807 := by have := RowAt.max h1; omega
  have Hn := Lib.hid hn
  have H1 := Lib.hid h1
  have H2 := Lib.hid h2
  clear hn h1 h2
  go_enter Try.func18, Try.ntmps18
  go_wp2
  go_loopw [5] (fun i wr => ∃ k : Nat, k ≤ n ∧ i = .int .i64 k ∧ Below w.heap.size w wr) (fun i _ => n - (intOf i).toNat)
  case atStart => exact ⟨0, by omega, rfl, Below.refl _ _⟩
  case round =>
    rename World => v1
    obtain ⟨k, hk, rfl, hbl⟩ := hrel
    by_cases hlt : k < n
    · obtain ⟨⟨x, y⟩, hx⟩ := at_lt (l := l) (k := k) (by rw [← Hn.out]; exact hlt)
      have hlti : (k : Int) < (n : Int) := by omega
      obtain ⟨g1, o1, rfl, hg1, e0, e1⟩ := FisAt.at_ (FisAt.below H1.out hbl) hx
      obtain ⟨g2, o2, rfl, hg2, f0, f1⟩ := FisAt.at_ (FisAt.below H2.out hbl) hx
      have Hb := Lib.hid hbl
      simp only at e0 e1 f0 f1
      clear hx hbl
      go_wp2
      go_quiet (fail)
      go_wp2
      go_roundw
      case rel => exact ⟨k + 1, by omega, by go_num, Hb.out.trans ((drewNb _ _).mono Hb.out.size)⟩
      case measure => simp [intOf]; omega
    · have hge : ¬ (k : Int) < (n : Int) := by omega
      have Hb := Lib.hid hbl
      clear hbl
      go_wp2
      go_ret
      exact ⟨rfl, Hb.out⟩

set_option maxRecDepth 100000 in
set_option maxHeartbeats 4000000 in
theorem far_big {w : World} {aT aA : Option Addr} {cTok cA nT nA : Nat} {ha hb : Nat} (h : 60 < nT ∨ 12 < nA) :
    Calls Try.prog 5 #[.agg #[.slice aT nT cTok, .slice aA nA cA], .int .u8 ha, .int .u8 hb] w fun e w' => e = .returned (.bool true) ∧ Below w.heap.size w w' := by
  have Hfew : Hid (false = (decide (nT ≤ 60) && decide (nA ≤ 12))) := Lib.hid (by rcases h with h | h <;> simp <;> omega)
  clear h
  go_enter Try.func5, Try.ntmps5
  go_wp2_with fail
  refine (awake9 _).mono ?_
  rintro e w1 ⟨rfl, hb⟩
  have hi := (InBx.start 25 w (.slice aT nT cTok) (.slice aA nA cA)).go hb
  have b0 := hi.c0
  have b1 := hi.c1
  have Hi := Lib.hid hi
  clear hb hi
  go_wp2_with fail
  refine (few_any false Hfew.out).mono ?_
  rintro e w2 ⟨rfl, hb2⟩
  have Hi2 := Lib.hid (Hi.out.go hb2)
  clear b0 b1 hb2
  go_wp2_with fail
  refine (awake9 _).mono ?_
  rintro e w3 ⟨rfl, hb3⟩
  have Hi3 := Lib.hid (Hi2.out.go hb3)
  clear hb3
  go_wp2
  go_ret
  exact ⟨rfl, Hi3.out.old⟩

set_option maxRecDepth 100000 in
set_option maxHeartbeats 4000000 in
theorem far_small {w : World} {aT aA : Option Addr} {cTok cA : Nat} {ha hb : Nat} {ts : List Nat} {acs : List Ac} (h : DraftAt w (.slice aT ts.length cTok) (.slice aA acs.length cA) ts acs) (h60 : ts.length ≤ 60) (h12 : acs.length ≤ 12) :
    Calls Try.prog 5 #[.agg #[.slice aT ts.length cTok, .slice aA acs.length cA], .int .u8 ha, .int .u8 hb] w fun e w' => e = .returned (.bool true) ∧ Below w.heap.size w w' := by
  have Hmake : Hid (∀ W : World, Below w.heap.size w W → Calls Try.prog 13 #[.agg #[.slice aT ts.length cTok, .slice aA acs.length cA]] W fun e w' => ∃ vp vt, e = .returned (.agg #[vp, vt]) ∧ NetOwn W.heap.size w' vp vt (makeN ts acs) ∧ Below W.heap.size W w') := Lib.hid (fun W hW => make_any (h.below hW))
  have Hchk := Lib.hid (makeN_check (ts := ts) h.ok)
  have Hnm := Lib.hid (makeN_names9 ts acs)
  have Hpos : Hid (1 ≤ (makeN ts acs).places.length) := Lib.hid (by have := cntP_bd ts; rw [show (makeN ts acs).places.length = cntP ts from plsOf_len _ _]; omega)
  obtain ⟨N, hN⟩ : ∃ N, N = makeN ts acs := ⟨_, rfl⟩
  rw [← hN] at Hmake Hchk Hnm Hpos
  obtain ⟨nT, hnT⟩ : ∃ k, k = ts.length := ⟨_, rfl⟩
  obtain ⟨nA, hnA⟩ : ∃ k, k = acs.length := ⟨_, rfl⟩
  rw [← hnT, ← hnA] at Hmake ⊢
  have Hfew : Hid (true = (decide (nT ≤ 60) && decide (nA ≤ 12))) := Lib.hid (by simp; omega)
  clear h hnT hnA h60 h12 hN
  go_enter Try.func5, Try.ntmps5
  go_wp2_with fail
  refine (awake9 _).mono ?_
  rintro e w1 ⟨rfl, hb⟩
  have hi := (InBx.start 25 w (.slice aT nT cTok) (.slice aA nA cA)).go hb
  have b0 := hi.c0
  have b1 := hi.c1
  have Hi := Lib.hid hi
  clear hb hi
  go_wp2_with fail
  refine (few_any true Hfew.out).mono ?_
  rintro e w2 ⟨rfl, hb2⟩
  clear b0 b1
  have hi := Hi.out.go hb2
  have b0 := hi.c0
  have b1 := hi.c1
  have Hi2 := Lib.hid hi
  clear hb2 hi
  go_wp2_with fail
  refine (Hmake.out _ Hi2.out.old).mono ?_
  rintro e w3 ⟨vp, vt, rfl, hno, hb3⟩
  have hna := hno.at_
  obtain ⟨a1, np, c1, a2, nt, c2, rfl, rfl, hnp, hnt⟩ := hna.form2
  have Hi3 := Lib.hid (Hi2.out.go hb3)
  have hnew : Below w3.heap.size w3 (w3.alloc (.cells #[.slice a1 np c1, .slice a2 nt c2] 31)) := (Below.refl _ _).alloc (Nat.le_refl _) _
  have Hrun := Lib.hid (fun hh W (hW : Below w3.heap.size w3 W) => run_any (w := W) (h := hh) hnp hnt (hna.below hW) Hnm.out Hchk.out)
  have Hnew := Lib.hid hnew
  have HB3 := Lib.hid Hi3.out.old
  have Hna3 := Lib.hid hna
  have Hnt := Lib.hid hnt
  have Hnp := Lib.hid hnp
  clear hno hb3 b0 b1 hna hnew hnt hnp
  go_wp2_with fail
  refine (Hrun.out _ _ Hnew.out).mono ?_
  rintro e w5 ⟨al, nl, cl, bm, cm, bw, nw, rfl, hnl, hnw, ⟨hf0, r2, hi0⟩, hb5⟩
  clear hnw r2 hi0
  have hfar := runN_far (checkN_nok Hchk.out) (x := (ha : Int) % 30) (y := (ha : Int) % 30 + (hb : Int) % 20) (by omega) (by omega)
  generalize runN N ((ha : Int) % 30) = P at hf0 hnl hfar ⊢
  obtain ⟨u, tp, ep⟩ := P
  simp only at hf0 hnl
  simp only [resV]
  have hn0 : (w3.alloc (.cells #[.slice a1 np c1, .slice a2 nt c2] 31)).cell? ⟨w3.heap.size, 0, none⟩ = some (.slice a1 np c1) := by go_simp
  have hn1 : (w3.alloc (.cells #[.slice a1 np c1, .slice a2 nt c2] 31)).cell? ⟨w3.heap.size, 1, none⟩ = some (.slice a2 nt c2) := by go_simp
  have m0 := (below_cells hb5 w3.heap.size 0 (by simp)).trans hn0
  have m1 := (below_cells hb5 w3.heap.size 1 (by simp)).trans hn1
  have m2 : w3.heap.size < w5.heap.size := by have := hb5.size; simp at this; omega
  have hb35 : Below w3.heap.size w3 w5 := Hnew.out.trans (hb5.mono Hnew.out.size)
  have hb6 : Below w5.heap.size w5 (w5.alloc (.cells #[.slice al nl cl, .slice (some ⟨bm, 0, none⟩) np cm, .slice (some ⟨bw, 0, none⟩) nw nw, .int .i64 tp] 36)) := (Below.refl _ _).alloc (Nat.le_refl _) _
  have hb36 := hb35.trans (hb6.mono hb35.size)
  have Hb36 := Lib.hid hb36
  have Hf6 := Lib.hid (FisAt.below hf0 hb6)
  have Hnl := Lib.hid hnl
  have Hfar := Lib.hid hfar
  clear hf0 hnl hfar hb5 hb35 hb6 hb36 hn0 hn1
  go_wp2_with fail
  refine (Hrun.out _ _ Hb36.out).mono ?_
  rintro e w7 ⟨aq, nq, cq, bn, cn, bx, nx, rfl, hnq, hnx, ⟨hg0, r3, hi1⟩, hb7⟩
  clear hnx r3 hi1
  generalize runN N ((ha : Int) % 30 + (hb : Int) % 20) = Q at hg0 hnq Hfar ⊢
  obtain ⟨v, tq, eq⟩ := Q
  simp only at hg0 hnq
  simp only [resV]
  have Hnq0 := Lib.hid hnq
  clear hnq
  go_upto_region 8 with (fail)
  have hnq := Hnq0.out
  have hb8 : Below w7.heap.size w7 (w7.alloc (.cells #[.slice aq nq cq, .slice (some ⟨bn, 0, none⟩) np cn, .slice (some ⟨bx, 0, none⟩) nx nx, .int .i64 tq] 36)) := (Below.refl _ _).alloc (Nat.le_refl _) _
  have hq0 : (w7.alloc (.cells #[.slice aq nq cq, .slice (some ⟨bn, 0, none⟩) np cn, .slice (some ⟨bx, 0, none⟩) nx nx, .int .i64 tq] 36)).cell? ⟨w7.heap.size, 0, none⟩ = some (.slice aq nq cq) := by go_simp
  have hp0 : (w5.alloc (.cells #[.slice al nl cl, .slice (some ⟨bm, 0, none⟩) np cm, .slice (some ⟨bw, 0, none⟩) nw nw, .int .i64 tp] 36)).cell? ⟨w5.heap.size, 0, none⟩ = some (.slice al nl cl) := by go_simp
  have h57 : w5.heap.size < w7.heap.size := by have := hb7.size; simp at this; omega
  have h37 : w3.heap.size < w7.heap.size := by omega
  have hp1 := (below_cells hb8 w5.heap.size 0 h57).trans ((below_cells hb7 w5.heap.size 0 (by simp)).trans hp0)
  have m65 : (w5.alloc (.cells #[.slice al nl cl, .slice (some ⟨bm, 0, none⟩) np cm, .slice (some ⟨bw, 0, none⟩) nw nw, .int .i64 tp] 36)).heap.size = w5.heap.size + 1 := by simp
  have m0' : (w5.alloc (.cells #[.slice al nl cl, .slice (some ⟨bm, 0, none⟩) np cm, .slice (some ⟨bw, 0, none⟩) nw nw, .int .i64 tp] 36)).cell? ⟨w3.heap.size, 0, none⟩ = some (.slice a1 np c1) := by go_simp
  have m1' : (w5.alloc (.cells #[.slice al nl cl, .slice (some ⟨bm, 0, none⟩) np cm, .slice (some ⟨bw, 0, none⟩) nw nw, .int .i64 tp] 36)).cell? ⟨w3.heap.size, 1, none⟩ = some (.slice a2 nt c2) := by go_simp
  have n0 := (below_cells hb8 w3.heap.size 0 h37).trans ((below_cells hb7 w3.heap.size 0 (by omega)).trans m0')
  have n1 := (below_cells hb8 w3.heap.size 1 h37).trans ((below_cells hb7 w3.heap.size 1 (by omega)).trans m1')
  have hb37 := Hb36.out.trans (hb7.mono Hb36.out.size)
  have hb38 := hb37.trans (hb8.mono hb37.size)
  have hfp := FisAt.below (FisAt.below Hf6.out hb7) hb8
  have hfq := FisAt.below hg0 hb8
  have hps : w5.heap.size < (w7.alloc (.cells #[.slice aq nq cq, .slice (some ⟨bn, 0, none⟩) np cn, .slice (some ⟨bx, 0, none⟩) nx nx, .int .i64 tq] 36)).heap.size := by simp; omega
  have hqs : w7.heap.size < (w7.alloc (.cells #[.slice aq nq cq, .slice (some ⟨bn, 0, none⟩) np cn, .slice (some ⟨bx, 0, none⟩) nx nx, .int .i64 tq] 36)).heap.size := by simp
  have hns : w3.heap.size < (w7.alloc (.cells #[.slice aq nq cq, .slice (some ⟨bn, 0, none⟩) np cn, .slice (some ⟨bx, 0, none⟩) nx nx, .int .i64 tq] 36)).heap.size := by simp; omega
  obtain ⟨P1, hP1⟩ : ∃ k, k = w5.heap.size := ⟨_, rfl⟩
  obtain ⟨Q1, hQ1⟩ : ∃ k, k = w7.heap.size := ⟨_, rfl⟩
  obtain ⟨N1, hN1⟩ : ∃ k, k = w3.heap.size := ⟨_, rfl⟩
  obtain ⟨x, hx⟩ : ∃ q : Int, q = (ha : Int) % 30 := ⟨_, rfl⟩
  obtain ⟨y, hy⟩ : ∃ q : Int, q = x + (hb : Int) % 20 := ⟨_, rfl⟩
  rw [← hx] at Hfar ⊢
  rw [← hy] at ⊢
  have Hy0 : Hid (0 ≤ y ∧ y ≤ 100) := Lib.hid (by omega)
  have H38 := 0
  rw [← hP1] at hp1 hps ⊢
  rw [← hQ1] at hq0 hqs ⊢
  rw [← hN1] at n0 n1 hns ⊢
  clear hg0 hb7 hb8 hp0 h57 h37 m65 m0' m1' m0 m1 m2 hb37 Hf6 Hb36 hP1 hQ1 hN1 hx hy
  have HH := And.intro hp1 (And.intro hps (And.intro hq0 (And.intro hqs (And.intro n0 (And.intro n1 (And.intro hns (And.intro hfp (And.intro hfq (hb38)))))))))
  clear hp1 hps hq0 hqs n0 n1 hns hfp hfq hb38 H38
  revert HH
  generalize (w7.alloc (.cells #[.slice aq nq cq, .slice (some ⟨bn, 0, none⟩) np cn, .slice (some ⟨bx, 0, none⟩) nx nx, .int .i64 tq] 36)) = W8
  rintro ⟨hp1, hps, hq0, hqs, n0, n1, hns, hfp, hfq, hb38⟩
  obtain ⟨⟨r, hr, hrt⟩, hre⟩ := Hfar.out
  simp only at hr hrt hre
  have hcq := hfq
  obtain ⟨_, aq', cq', eaq, hcq1, hcq2, _⟩ := hcq
  injection eaq with ea1 ea2 ea3
  subst ea3
  subst ea1
  clear ea2
  rw [← hnq] at hcq1
  have hlen : nq = nl + r.length := by rw [hnq, hr, List.length_append, ← Hnl.out]
  have hnle : nl ≤ nq := by omega
  have hmaxq : nq ≤ 9223372036854775807 := by unfold maxLen at hcq2; omega
  have hfu : FisAt W8 (.slice aq nl cq) u.log := by
    have h1 := RowAt.take (size := 2) (w := W8) (n := nq) (xs := v.log.flatMap fiL) (a := aq) (cap := cq) (by rw [hnq] at hfq ⊢; exact hfq) nl hnle
    have e : (v.log.flatMap fiL).take (nl * 2) = u.log.flatMap fiL := by
      rw [hr, List.flatMap_append, List.take_left' (by rw [flat_len fiL_len, ← Hnl.out])]
    rw [e] at h1
    have h2 := h1
    rw [Hnl.out] at h2 ⊢
    exact h2
  have HS := Lib.hid (fun p : NewBy W8 => samelog_same (w := p.to) Hnl.out (FisAt.below hfp p.below) (FisAt.below hfu p.below))
  have g1 : decide ((nq : Int) < (nl : Int)) = false := decide_eq_false (by omega)
  have g1n : ¬ nq < nl := by omega
  have g2 : (nl : Int) ≤ (cq : Int) := by omega
  have p0 := fun p : NewBy W8 => NewBy.cell hps hp1 p
  have q0 := fun p : NewBy W8 => NewBy.cell hqs hq0 p
  have H38 := Lib.hid hb38
  have Hfq := Lib.hid hfq
  have Hhr := Lib.hid hr
  have Hlen := Lib.hid hlen
  have Hnq := Lib.hid hnq
  have Hrt := Lib.hid hrt
  have Hre := Lib.hid hre
  clear hfu hfq hfp hb38 hr hlen hnq hrt hre hcq1 hcq2
  by_cases he : ep = 0
  · subst he
    clear Hre
    refine wp_region_new (by kernel_rfl) (by kernel_rfl) ?_
    repeat (go_big_quiet_step (first | (go_at_call 18; exact Calls.new_of (HS.out _))))
    refine wpQuiet_nil ?_
    intro wz hzz
    obtain ⟨pz, hzz⟩ := hzz
    subst hzz
    have HH := And.intro (p0 pz) (And.intro (q0 pz) (And.intro (NewBy.cell hns n0 pz) (And.intro (NewBy.cell hns n1 pz) pz.below)))
    clear p0 q0 n0 n1 hp1 hq0
    revert HH
    generalize pz.to = W9
    rintro ⟨p0, q0, n0, n1, hb9⟩
    have hps9 : P1 < W9.heap.size := Nat.lt_of_lt_of_le hps hb9.size
    have hqs9 : Q1 < W9.heap.size := Nat.lt_of_lt_of_le hqs hb9.size
    have hns9 : N1 < W9.heap.size := Nat.lt_of_lt_of_le hns hb9.size
    have Hb9 := Lib.hid hb9
    clear hb9 hps hqs hns pz HS
    go_wp2
    clear p0
    go_loopw [14] (fun i wr => ∃ k : Nat, nl ≤ k ∧ k ≤ nq ∧ i = .int .i64 k ∧ Below W9.heap.size W9 wr) (fun i _ => nq - (intOf i).toNat)
    case atStart => exact ⟨nl, by omega, hnle, rfl, Below.refl _ _⟩
    case round =>
      rename World => v1
      obtain ⟨k, hk0, hk, rfl, hbl⟩ := hrel
      have q1 := (below_cells hbl Q1 0 hqs9).trans q0
      by_cases hlt : k < nq
      · have hlti : (k : Int) < (nq : Int) := by omega
        have Hbl := Lib.hid hbl
        obtain ⟨⟨xt, xi⟩, hxx⟩ := at_lt (l := v.log) (k := k) (by rw [← Hnq.out]; exact hlt)
        have hxt : x < xt := by
          have h1 := hxx
          rw [Hhr.out, List.getElem?_append_right (by rw [← Hnl.out]; exact hk0)] at h1
          exact Hrt.out trivial _ (List.mem_of_getElem? h1)
        have g3 : decide (xt ≤ x) = false := decide_eq_false (by omega)
        obtain ⟨g, off, rfl, hg, z0, z1⟩ := FisAt.at_ (FisAt.below (FisAt.below Hfq.out Hb9.out) hbl) hxx
        simp only at z0
        clear hxx z1 hbl hxt
        go_wp2
        go_roundw
        case rel => exact ⟨k + 1, by omega, by omega, by go_num, Hbl.out⟩
        case measure => simp [intOf]; omega
      · have hge : ¬ (k : Int) < (nq : Int) := by omega
        have n2 := (below_cells hbl N1 0 hns9).trans n0
        have n3 := (below_cells hbl N1 1 hns9).trans n1
        have hW : Below w3.heap.size w3 v1 := (H38.out.trans (Hb9.out.mono H38.out.size)).trans (hbl.mono (H38.out.trans (Hb9.out.mono H38.out.size)).size)
        have HWW := Lib.hid hW
        have hns1 : N1 < v1.heap.size := Nat.lt_of_lt_of_le hns9 hbl.size
        clear hbl hW n0 n1 q0
        go_wp2_with fail
        refine (Hrun.out _ _ HWW.out).mono ?_
        rintro e w10 ⟨az, nz, cz, bz, co, bo, no, rfl, hnz, hno, ⟨hz0, hz1, hz2⟩, hb10⟩
        rw [runN_none (h := wrap64 (-1 - y)) (by rw [IntWalk.wrap64_in _ (by have := Hy0.out; omega)]; have := Hy0.out; omega)] at hnz hz0 hz1 ⊢
        have e0 : nz = 0 := hnz
        subst e0
        have hstart : (start N).m = N.places.map (·.tok) := rfl
        simp only at hz1
        rw [hstart] at hz1
        obtain ⟨pl, hpl⟩ := at_lt (l := N.places) (k := 0) (by have := Hpos.out; omega)
        obtain ⟨gm, om, em, hgm, t0⟩ := IntsAt.at_ hz1 (i := 0) (x := pl.tok) (by rw [List.getElem?_map, hpl]; rfl)
        injection em with em
        injection em with em1 em2 _
        subst em1
        subst em2
        have hpl2 := (Hna3.out.below HWW.out).below hb10
        obtain ⟨gp, op, rfl, hgp, s0, s1⟩ := PlsAt.at_ hpl2.1 hpl
        simp only [resV]
        have nn0 := (below_cells hb10 N1 0 hns1).trans n2
        have nnl : N1 < w10.heap.size := Nat.lt_of_lt_of_le hns1 hb10.size
        obtain ⟨tk, htk⟩ : ∃ q, q = pl.tok := ⟨_, rfl⟩
        rw [← htk] at t0 s1
        have hnp0 : (0 : Int) < (np : Int) := by have := Hnp.out; have := Hpos.out; omega
        have hnp1 : 0 < np := by omega
        have hb10w := HWW.out.trans (hb10.mono HWW.out.size)
        have hbox : Below w10.heap.size w10 (w10.alloc (.cells #[.slice az 0 cz, .slice (some ⟨bz, 0, none⟩) np co, .slice (some ⟨bo, 0, none⟩) no no, .int .i64 0] 36)) := (Below.refl _ _).alloc (Nat.le_refl _) _
        have HF := Lib.hid (HB3.out.trans ((hb10w.trans (hbox.mono hb10w.size)).mono HB3.out.size))
        simp only [Nat.add_zero, Nat.zero_mul] at t0 s0 s1
        clear hnz hno hz0 hz1 hz2 hb10 hpl hpl2 htk hstart n2 n3 hb10w hbox s0
        go_wp2
        go_quiet (fail)
        go_wp2
        go_ret
        exact ⟨rfl, HF.out.trans ((drewNb _ _).mono HF.out.size)⟩

  · have heq : eq = ep := Hre.out he
    subst heq
    have g7 : (eq == 0) = false := by simpa using he
    have g8 : (eq != 0) = true := by simpa using he
    have g9 : (eq == eq) = true := by simp
    have g10 : (eq != eq) = false := by simp
    clear he Hre Hrt
    refine wp_region_new (by kernel_rfl) (by kernel_rfl) ?_
    repeat (go_big_quiet_step (first | (go_at_call 18; exact Calls.new_of (HS.out _))))
    refine wpQuiet_nil ?_
    intro wz hzz
    obtain ⟨pz, hzz⟩ := hzz
    subst hzz
    have HH := And.intro (p0 pz) (And.intro (q0 pz) (And.intro (NewBy.cell hns n0 pz) (And.intro (NewBy.cell hns n1 pz) pz.below)))
    clear p0 q0 n0 n1 hp1 hq0
    revert HH
    generalize pz.to = W9
    rintro ⟨p0, q0, n0, n1, hb9⟩
    have hps9 : P1 < W9.heap.size := Nat.lt_of_lt_of_le hps hb9.size
    have hqs9 : Q1 < W9.heap.size := Nat.lt_of_lt_of_le hqs hb9.size
    have hns9 : N1 < W9.heap.size := Nat.lt_of_lt_of_le hns hb9.size
    have Hb9 := Lib.hid hb9
    clear hb9 hps hqs hns pz HS
    go_wp2
    clear p0
    go_loopw [14] (fun i wr => ∃ k : Nat, nl ≤ k ∧ k ≤ nq ∧ i = .int .i64 k ∧ Below W9.heap.size W9 wr) (fun i _ => nq - (intOf i).toNat)
    case atStart => exact ⟨nl, by omega, hnle, rfl, Below.refl _ _⟩
    case round =>
      rename World => v1
      obtain ⟨k, hk0, hk, rfl, hbl⟩ := hrel
      have q1 := (below_cells hbl Q1 0 hqs9).trans q0
      by_cases hlt : k < nq
      · have hlti : (k : Int) < (nq : Int) := by omega
        have Hbl := Lib.hid hbl
        clear hbl
        go_wp2
        go_roundw
        case rel => exact ⟨k + 1, by omega, by omega, by go_num, Hbl.out⟩
        case measure => simp [intOf]; omega
      · have hge : ¬ (k : Int) < (nq : Int) := by omega
        have n2 := (below_cells hbl N1 0 hns9).trans n0
        have n3 := (below_cells hbl N1 1 hns9).trans n1
        have hW : Below w3.heap.size w3 v1 := (H38.out.trans (Hb9.out.mono H38.out.size)).trans (hbl.mono (H38.out.trans (Hb9.out.mono H38.out.size)).size)
        have HWW := Lib.hid hW
        have hns1 : N1 < v1.heap.size := Nat.lt_of_lt_of_le hns9 hbl.size
        clear hbl hW n0 n1 q0
        go_wp2_with fail
        refine (Hrun.out _ _ HWW.out).mono ?_
        rintro e w10 ⟨az, nz, cz, bz, co, bo, no, rfl, hnz, hno, ⟨hz0, hz1, hz2⟩, hb10⟩
        rw [runN_none (h := wrap64 (-1 - y)) (by rw [IntWalk.wrap64_in _ (by have := Hy0.out; omega)]; have := Hy0.out; omega)] at hnz hz0 hz1 ⊢
        have e0 : nz = 0 := hnz
        subst e0
        have hstart : (start N).m = N.places.map (·.tok) := rfl
        simp only at hz1
        rw [hstart] at hz1
        obtain ⟨pl, hpl⟩ := at_lt (l := N.places) (k := 0) (by have := Hpos.out; omega)
        obtain ⟨gm, om, em, hgm, t0⟩ := IntsAt.at_ hz1 (i := 0) (x := pl.tok) (by rw [List.getElem?_map, hpl]; rfl)
        injection em with em
        injection em with em1 em2 _
        subst em1
        subst em2
        have hpl2 := (Hna3.out.below HWW.out).below hb10
        obtain ⟨gp, op, rfl, hgp, s0, s1⟩ := PlsAt.at_ hpl2.1 hpl
        simp only [resV]
        have nn0 := (below_cells hb10 N1 0 hns1).trans n2
        have nnl : N1 < w10.heap.size := Nat.lt_of_lt_of_le hns1 hb10.size
        obtain ⟨tk, htk⟩ : ∃ q, q = pl.tok := ⟨_, rfl⟩
        rw [← htk] at t0 s1
        have hnp0 : (0 : Int) < (np : Int) := by have := Hnp.out; have := Hpos.out; omega
        have hnp1 : 0 < np := by omega
        have hb10w := HWW.out.trans (hb10.mono HWW.out.size)
        have hbox : Below w10.heap.size w10 (w10.alloc (.cells #[.slice az 0 cz, .slice (some ⟨bz, 0, none⟩) np co, .slice (some ⟨bo, 0, none⟩) no no, .int .i64 0] 36)) := (Below.refl _ _).alloc (Nat.le_refl _) _
        have HF := Lib.hid (HB3.out.trans ((hb10w.trans (hbox.mono hb10w.size)).mono HB3.out.size))
        simp only [Nat.add_zero, Nat.zero_mul] at t0 s0 s1
        clear hnz hno hz0 hz1 hz2 hb10 hpl hpl2 htk hstart n2 n3 hb10w hbox s0
        go_wp2
        go_quiet (fail)
        go_wp2
        go_ret
        exact ⟨rfl, HF.out.trans ((drewNb _ _).mono HF.out.size)⟩

theorem far_law {w : World} {aT aA : Option Addr} {cTok cA : Nat} {ha hb : Int} (ua : (Lit.int .u8 ha).wf = true) (ub : (Lit.int .u8 hb).wf = true) {ts : List Nat} {acs : List Ac} (h : DraftAt w (.slice aT ts.length cTok) (.slice aA acs.length cA) ts acs) :
    Calls Try.prog 5 #[.agg #[.slice aT ts.length cTok, .slice aA acs.length cA], .int .u8 ha, .int .u8 hb] w fun e w' => e = .returned (.bool true) ∧ Below w.heap.size w w' := by
  obtain ⟨ha, rfl, _⟩ := u8_nat ua
  obtain ⟨hb, rfl, _⟩ := u8_nat ub
  by_cases h60 : ts.length ≤ 60
  · by_cases h12 : acs.length ≤ 12
    · exact far_small h h60 h12
    · exact far_big (.inr (by omega))
  · exact far_big (.inl (by omega))
end Go.Proofs.Ytfekgcfojhbngaa
