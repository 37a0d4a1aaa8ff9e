/-
  The walk of the law PlainTimes: firings' times do not fall, none is above the horizon; at each time no transition fires too often.
  Conditions: none beyond the theorems' own.
-/
import Derived.Test.YtfekgcfojhbngaaRunJ
import Derived.Test.YtfekgcfojhbngaaTimesM
import Derived.Test.YtfekgcfojhbngaaNearIn
namespace Go.Proofs.Ytfekgcfojhbngaa
open Go.RowKit
set_option linter.unusedVariables false

/-- a law's world behind its run: what the result's box, the net's box and the log are -/
structure Beh (W6 wr : World) (R nb nl nt : Nat) (al a2 : Option Addr) (cl c2 : Nat) (tt : Int) (l : List (Int × Int)) : Prop where
  below : Below W6.heap.size W6 wr
  d0 : wr.cell? ⟨R, 0, none⟩ = some (.slice al nl cl)
  d3 : wr.cell? ⟨R, 3, none⟩ = some (.int .i64 tt)
  e1 : wr.cell? ⟨nb, 1, none⟩ = some (.slice a2 nt c2)
  rl : R < W6.heap.size
  bl : nb < W6.heap.size
  log : FisAt wr (.slice al nl cl) l
section
variable {W6 wr w' : World} {R nb nl nt : Nat} {al a2 : Option Addr} {cl c2 : Nat} {tt : Int} {l : List (Int × Int)}
theorem Beh.go (h : Beh W6 wr R nb nl nt al a2 cl c2 tt l) (hb : Below W6.heap.size wr w') (hl : FisAt w' (.slice al nl cl) l) : Beh W6 w' R nb nl nt al a2 cl c2 tt l :=
  ⟨h.below.trans hb, (hb.cell (p := ⟨R, 0, none⟩) h.rl).trans h.d0, (hb.cell (p := ⟨R, 3, none⟩) h.rl).trans h.d3, (hb.cell (p := ⟨nb, 1, none⟩) h.bl).trans h.e1, h.rl, h.bl, hl⟩
theorem Beh.up (h : Beh W6 wr R nb nl nt al a2 cl c2 tt l) (hb : Below wr.heap.size wr w') : Beh W6 w' R nb nl nt al a2 cl c2 tt l :=
  h.go (hb.mono h.below.size) (h.log.below hb)
theorem Beh.lt (h : Beh W6 wr R nb nl nt al a2 cl c2 tt l) : R < wr.heap.size ∧ nb < wr.heap.size := ⟨Nat.lt_of_lt_of_le h.rl h.below.size, Nat.lt_of_lt_of_le h.bl h.below.size⟩
end
theorem FisAt.far {w' : World} {v : Value} {l : List (Int × Int)} {W6 : World} (h : FisAt W6 v l) (hb : Below W6.heap.size W6 w') : FisAt w' v l := h.below hb

set_option maxRecDepth 100000 in
set_option maxHeartbeats 4000000 in
theorem times9_big {w : World} {aT aA : Option Addr} {cTok cA nT nA : Nat} {hz : Nat} (h : 60 < nT ∨ 12 < nA) :
    Calls Try.prog 7 #[.agg #[.slice aT nT cTok, .slice aA nA cA], .int .u8 hz] w fun e w' => e = .returned (.bool true) ∧ Below w.heap.size w w' := by
  have Hfew : Hid (false = (decide (nT ≤ 60) && decide (nA ≤ 12))) := Lib.hid (by rcases h with h | h <;> simp <;> omega)
  clear h
  go_enter Try.func7, Try.ntmps7
  go_wp2_with fail
  refine (awake9 _).mono ?_
  rintro e w1 ⟨rfl, hb⟩
  have hi := (InBx.start 25 w (.slice aT nT cTok) (.slice aA nA cA)).go hb
  have b0 := hi.c0
  have b1 := hi.c1
  have Hi := Lib.hid hi
  clear hb hi
  go_wp2_with fail
  refine (few_any false Hfew.out).mono ?_
  rintro e w2 ⟨rfl, hb2⟩
  have Hi2 := Lib.hid (Hi.out.go hb2)
  clear b0 b1 hb2
  go_wp2_with fail
  refine (awake9 _).mono ?_
  rintro e w3 ⟨rfl, hb3⟩
  have Hi3 := Lib.hid (Hi2.out.go hb3)
  clear hb3
  go_wp2
  go_ret
  exact ⟨rfl, Hi3.out.old⟩

set_option maxRecDepth 100000 in
set_option maxHeartbeats 4000000 in
theorem times9_small {w : World} {aT aA : Option Addr} {cTok cA : Nat} {hz : Nat} {ts : List Nat} {acs : List Ac} (h : DraftAt w (.slice aT ts.length cTok) (.slice aA acs.length cA) ts acs) (h60 : ts.length ≤ 60) (h12 : acs.length ≤ 12) :
    Calls Try.prog 7 #[.agg #[.slice aT ts.length cTok, .slice aA acs.length cA], .int .u8 hz] w fun e w' => e = .returned (.bool true) ∧ Below w.heap.size w w' := by
  have Hmake : Hid (∀ W : World, Below w.heap.size w W → Calls Try.prog 13 #[.agg #[.slice aT ts.length cTok, .slice aA acs.length cA]] W fun e w' => ∃ vp vt, e = .returned (.agg #[vp, vt]) ∧ NetOwn W.heap.size w' vp vt (makeN ts acs) ∧ Below W.heap.size W w') := Lib.hid (fun W hW => make_any (h.below hW))
  have Hchk := Lib.hid (makeN_check (ts := ts) h.ok)
  have Hnm := Lib.hid (makeN_names9 ts acs)
  have Hpos : Hid (1 ≤ (makeN ts acs).places.length) := Lib.hid (by have := cntP_bd ts; rw [show (makeN ts acs).places.length = cntP ts from plsOf_len _ _]; omega)
  obtain ⟨N, hN⟩ : ∃ N, N = makeN ts acs := ⟨_, rfl⟩
  rw [← hN] at Hmake Hchk Hnm Hpos
  obtain ⟨nT, hnT⟩ : ∃ k, k = ts.length := ⟨_, rfl⟩
  obtain ⟨nA, hnA⟩ : ∃ k, k = acs.length := ⟨_, rfl⟩
  rw [← hnT, ← hnA] at Hmake ⊢
  have Hfew : Hid (true = (decide (nT ≤ 60) && decide (nA ≤ 12))) := Lib.hid (by simp; omega)
  clear h hnT hnA h60 h12 hN
  go_enter Try.func7, Try.ntmps7
  go_wp2_with fail
  refine (awake9 _).mono ?_
  rintro e w1 ⟨rfl, hb⟩
  have hi := (InBx.start 25 w (.slice aT nT cTok) (.slice aA nA cA)).go hb
  have b0 := hi.c0
  have b1 := hi.c1
  have Hi := Lib.hid hi
  clear hb hi
  go_wp2_with fail
  refine (few_any true Hfew.out).mono ?_
  rintro e w2 ⟨rfl, hb2⟩
  clear b0 b1
  have hi := Hi.out.go hb2
  have b0 := hi.c0
  have b1 := hi.c1
  have Hi2 := Lib.hid hi
  clear hb2 hi
  go_wp2_with fail
  refine (Hmake.out _ Hi2.out.old).mono ?_
  rintro e w3 ⟨vp, vt, rfl, hno, hb3⟩
  have hna := hno.at_
  obtain ⟨a1, np, c1, a2, nt, c2, rfl, rfl, hnp, hnt⟩ := hna.form2
  have Hi3 := Lib.hid (Hi2.out.go hb3)
  have hnew : Below w3.heap.size w3 (w3.alloc (.cells #[.slice a1 np c1, .slice a2 nt c2] 31)) := (Below.refl _ _).alloc (Nat.le_refl _) _
  have Hrun := Lib.hid (fun hh W (hW : Below w3.heap.size w3 W) => run_any (w := W) (h := hh) hnp hnt (hna.below hW) Hnm.out Hchk.out)
  have Hnew := Lib.hid hnew
  have HB3 := Lib.hid Hi3.out.old
  have Hna3 := Lib.hid hna
  have Hnt := Lib.hid hnt
  have Hnp := Lib.hid hnp
  clear hno hb3 b0 b1 hna hnew hnt hnp
  go_wp2_with fail
  refine (Hrun.out _ _ Hnew.out).mono ?_
  rintro e w5 ⟨al, nl, cl, bm, cm, bw, nw, rfl, hnl, hnw, ⟨hf0, r2, hi0⟩, hb5⟩
  clear hnw r2 hi0
  have hlog := runN_log (checkN_nok Hchk.out) (h := (hz : Int) % 40)
  have hinv := runN_inv (checkN_nok Hchk.out) ((hz : Int) % 40)
  generalize runN N ((hz : Int) % 40) = A at hf0 hnl hlog hinv ⊢
  obtain ⟨u, tt, er⟩ := A
  simp only at hf0 hlog hinv hnl
  simp only [resV]
  have hll := hinv.ll
  have hnt32 : nt ≤ 1000000 := by have := (checkN_nok Hchk.out).tr; have := Hnt.out; omega
  have hn1 : (w3.alloc (.cells #[.slice a1 np c1, .slice a2 nt c2] 31)).cell? ⟨w3.heap.size, 1, none⟩ = some (.slice a2 nt c2) := by go_simp
  have m1 := (below_cells hb5 w3.heap.size 1 (by simp)).trans hn1
  have m2 : w3.heap.size < w5.heap.size := by have := hb5.size; simp at this; omega
  have hb35 : Below w3.heap.size w3 w5 := Hnew.out.trans (hb5.mono Hnew.out.size)
  have hb6 : Below w5.heap.size w5 (w5.alloc (.cells #[.slice al nl cl, .slice (some ⟨bm, 0, none⟩) np cm, .slice (some ⟨bw, 0, none⟩) nw nw, .int .i64 tt] 36)) := (Below.refl _ _).alloc (Nat.le_refl _) _
  have HW := Lib.hid (HB3.out.trans ((hb35.trans (hb6.mono hb35.size)).mono HB3.out.size))
  have hbeh : Beh (w5.alloc (.cells #[.slice al nl cl, .slice (some ⟨bm, 0, none⟩) np cm, .slice (some ⟨bw, 0, none⟩) nw nw, .int .i64 tt] 36)) (w5.alloc (.cells #[.slice al nl cl, .slice (some ⟨bm, 0, none⟩) np cm, .slice (some ⟨bw, 0, none⟩) nw nw, .int .i64 tt] 36)) w5.heap.size w3.heap.size nl nt al a2 cl c2 tt u.log :=
    ⟨Below.refl _ _, by go_simp, by go_simp, by go_simp, by simp, by simp; omega, FisAt.below hf0 hb6⟩
  obtain ⟨w7, hmk, ho7, hb7⟩ := run_make_ints nt hnt32 (w5.alloc (.cells #[.slice al nl cl, .slice (some ⟨bm, 0, none⟩) np cm, .slice (some ⟨bw, 0, none⟩) nw nw, .int .i64 tt] 36))
  have HO7 := Lib.hid ho7
  have HBeh := Lib.hid (hbeh.up hb7)
  have HLog6 := Lib.hid hbeh.log
  have HW7 := Lib.hid (HW.out.trans (hb7.mono HW.out.size))
  have Hlog := Lib.hid hlog
  have Hnl := Lib.hid hnl
  have Hll := Lib.hid (show nl ≤ 2000 by omega)
  rw [show (w5.alloc (.cells #[.slice al nl cl, .slice (some ⟨bm, 0, none⟩) np cm, .slice (some ⟨bw, 0, none⟩) nw nw, .int .i64 tt] 36)).heap.size = w5.heap.size + 1 by simp] at hmk
  clear hf0 hnl hlog hinv hll hn1 hb35 hb6 hbeh ho7 hb7 hb5
  obtain ⟨hh, hhh⟩ : ∃ q : Int, q = (hz : Int) % 40 := ⟨_, rfl⟩
  rw [← hhh] at Hlog ⊢
  clear hhh
  go_wp2
  obtain ⟨R, hR⟩ : ∃ q, q = w5.heap.size := ⟨_, rfl⟩
  obtain ⟨nb, hnb⟩ : ∃ q, q = w3.heap.size := ⟨_, rfl⟩
  have HBeh2 := HBeh.out
  have HO72 := HO7.out
  have HW2 := HW.out
  rw [show (w5.alloc (.cells #[.slice al nl cl, .slice (some ⟨bm, 0, none⟩) np cm, .slice (some ⟨bw, 0, none⟩) nw nw, .int .i64 tt] 36)).heap.size = R + 1 by simp [hR]] at HO72
  have hs6 : (w5.alloc (.cells #[.slice al nl cl, .slice (some ⟨bm, 0, none⟩) np cm, .slice (some ⟨bw, 0, none⟩) nw nw, .int .i64 tt] 36)).heap.size = R + 1 := by simp [hR]
  rw [← hR, ← hnb] at HBeh2
  rw [← hR, ← hnb]
  have h76 := HBeh2.below
  have hlog6 := HLog6.out
  clear HBeh HO7 HW HW7 hmk m1 m2 HLog6
  revert HBeh2 HO72 HW2 hs6 h76 hlog6
  generalize (w5.alloc (.cells #[.slice al nl cl, .slice (some ⟨bm, 0, none⟩) np cm, .slice (some ⟨bw, 0, none⟩) nw nw, .int .i64 tt] 36)) = W6
  intro HBeh2 HO72 HW2 hs6 h76 hlog6
  have HBeh := Lib.hid HBeh2
  have HBeh0 := Lib.hid hlog6
  have HO7 := Lib.hid HO72
  have HW := Lib.hid HW2
  have Hs6 := Lib.hid hs6
  clear HBeh2 HO72 HW2 hs6 h76 hR hnb hlog6
  go_loopw [9, 10] (fun s9 s10 wr => ∃ (k cb : Nat) (c : List Int), k ≤ nl ∧ s10 = .int .i64 k ∧ s9 = .slice (some ⟨cb, 0, none⟩) nt nt ∧ OwnI W6.heap.size wr (.slice (some ⟨cb, 0, none⟩) nt nt) c ∧ Hid (c = (cntSt nt (u.log.take k)).2) ∧ Beh W6 wr R nb nl nt al a2 cl c2 tt u.log) (fun _ i _ => nl - (intOf i).toNat)
  case atStart => exact ⟨0, R + 1, List.replicate nt 0, by omega, rfl, rfl, by rw [Hs6.out]; exact HO7.out, Lib.hid rfl, HBeh.out⟩
  case round =>
    rename World => v1
    obtain ⟨k, cb, c, hk, rfl, rfl, hoc, Hc, hbe⟩ := hrel
    have d0 := hbe.d0
    have d3 := hbe.d3
    have e1 := hbe.e1
    have rl := hbe.lt.1
    have bl := hbe.lt.2
    have Hoc := Lib.hid hoc
    have Hbe := Lib.hid hbe
    clear hoc hbe
    by_cases hlt : k < nl
    · obtain ⟨⟨xt, xi⟩, hx⟩ := at_lt (l := u.log) (k := k) (by rw [← Hnl.out]; exact hlt)
      have hlti : (k : Int) < (nl : Int) := by omega
      obtain ⟨q1, q2, q3, q4, q5, q6, q7, q8⟩ := Hlog.out k _ hx
      rw [← Hnt.out] at q5 q6 q7
      simp only at q1 q2 q3 q4 q5 q6 q7 q8
      obtain ⟨p, rfl⟩ : ∃ p : Nat, xi = p := ⟨xi.toNat, by omega⟩
      obtain ⟨g, off, rfl, hg, z0, z1⟩ := FisAt.at_ Hbe.out.log hx
      have Hlog6 : Hid (FisAt W6 (.slice (some ⟨g, off, none⟩) nl cl) u.log) := Lib.hid HBeh0.out
      simp only at z0 z1
      have hpn : p < nt := by omega
      have hpi : (p : Int) < (nt : Int) := by omega
      have g1 : decide (xt < 0) = false := decide_eq_false (by omega)
      have g2 : decide (hh < xt) = false := decide_eq_false (by omega)
      have g3 : decide (tt < xt) = false := decide_eq_false (by omega)
      have g5 : decide ((nt : Int) ≤ (p : Int)) = false := decide_eq_false (by omega)
      have g5p : decide ((p : Int) < 0) = false := decide_eq_false (by omega)
      have g5n : decide (nt ≤ p) = false := decide_eq_false (by omega)
      have hst := cntSt_take (nt := nt) hx
      have Hst := Lib.hid hst
      have Hq6 := Lib.hid q6
      have Hq8 := Lib.hid q8
      have Hx := Lib.hid hx
      have HNW := Lib.hid (fun (W : World) => run_make_ints nt hnt32 W)
      clear hst q1 q2 q3 q4 q5 q6 q7 q8 hx
      by_cases h0 : k = 0
      · subst h0
        simp only [Nat.zero_mul, Nat.add_zero] at z0 z1
        have g4 : decide ((0 : Int) < ((0 : Nat) : Int)) = false := by decide
        clear hlti
        have hlti : (0 : Int) < (nl : Int) := by omega
        go_upto_region 11 with (fail)
        go_quiet (fail)
        have xb : Below v1.heap.size v1 ((v1.alloc (.cells #[.int .i64 xt, .int .i64 (p : Int)] 51)).drewN nq) := ((Below.refl _ _).alloc (Nat.le_refl _) _).trans ((drewNb _ nq).mono (by simp))
        have x0 : ((v1.alloc (.cells #[.int .i64 xt, .int .i64 (p : Int)] 51)).drewN nq).cell? ⟨v1.heap.size, 0, none⟩ = some (.int .i64 xt) := by go_simp
        have x1 : ((v1.alloc (.cells #[.int .i64 xt, .int .i64 (p : Int)] 51)).drewN nq).cell? ⟨v1.heap.size, 1, none⟩ = some (.int .i64 (p : Int)) := by go_simp
        have xl : v1.heap.size < ((v1.alloc (.cells #[.int .i64 xt, .int .i64 (p : Int)] 51)).drewN nq).heap.size := by simp
        have hbe2 := Hbe.out.up xb
        have hoc2 := Hoc.out.below xb
        have hcb1 := Hoc.out.lt.2
        obtain ⟨B1, hB1⟩ : ∃ q, q = v1.heap.size := ⟨_, rfl⟩
        rw [← hB1] at x0 x1 xl hcb1 ⊢
        clear xb hB1 d0 d3 e1 rl bl z0 z1 hg
        have HH := And.intro x0 (And.intro x1 (And.intro xl (And.intro hbe2 hoc2)))
        clear x0 x1 xl hbe2 hoc2
        revert HH
        generalize ((v1.alloc (.cells #[.int .i64 xt, .int .i64 (p : Int)] 51)).drewN nq) = X
        rintro ⟨x0, x1, xl, hbe2, hoc2⟩
        have d0 := hbe2.d0
        have e1 := hbe2.e1
        have rl := hbe2.lt.1
        have bl := hbe2.lt.2
        have Hbe3 := Lib.hid hbe2
        have Hoc3 := Lib.hid hoc2
        clear hbe2 hoc2 Hoc Hbe
        go_upto_region 13 with (fail)
        go_quiet (fail)
        have hbe4 := Hbe3.out.up (drewNb X nq)
        have hoc4 := Hoc3.out.below (drewNb X nq)
        have w0' : (X.drewN nq).cell? ⟨B1, 0, none⟩ = some (.int .i64 xt) := by go_simp
        have w1' : (X.drewN nq).cell? ⟨B1, 1, none⟩ = some (.int .i64 (p : Int)) := by go_simp
        have wl' : B1 < (X.drewN nq).heap.size := by simpa using xl
        clear x0 x1 xl d0 e1 rl bl
        have HH := And.intro hbe4 (And.intro hoc4 (And.intro w0' (And.intro w1' wl')))
        clear hbe4 hoc4 w0' w1' wl'
        revert HH
        generalize X.drewN nq = Y
        rintro ⟨hbe4, hoc4, w0, w1, wl⟩
        have d0 := hbe4.d0
        have e1 := hbe4.e1
        have rl := hbe4.lt.1
        have bl := hbe4.lt.2
        have hbe5 := hbe4
        have hOW := hoc4
        have hLen : c.length = nt := by rw [Hc.out]; exact cntSt_len _ _
        obtain ⟨z, hz⟩ := at_lt (l := c) (k := p) (by rw [hLen]; exact hpn)
        have hbase : cntSt nt (u.log.take (0 + 1)) = (some xt, c.set p (getI c p + 1)) := by rw [Hst.out]; unfold cntStep; rw [if_pos (.inl rfl), ← Hc.out]; rfl
        have hgz : getI (c) (p : Int) = z := getI_at hz
        rw [hgz] at hbase
        have hz20 : z + 1 ≤ 20 := by
          have := Hq6.out
          rw [hbase, show getI ((c).set p (z + 1)) (p : Int) = z + 1 from getI_at (by rw [List.getElem?_set_self (by rw [hLen]; exact hpn)])] at this
          exact this
        have hz0 : 0 ≤ z := by rw [← hgz]; exact getI_nonneg (by rw [Hc.out]; exact cnt_nonneg _ _) _
        have hwz : wrap64 (z + 1) = z + 1 := IntWalk.wrap64_in _ (by omega)
        have c0 := hOW.cell hz
        have f0 := hOW.froz p
        have fl := hOW.lt.2
        have hcbw := hOW.lt.1
        have hset := hOW.set p (z + 1) (by rw [hLen]; exact hpn)
        have HR : Hid (OwnI W6.heap.size (Y.setCell ⟨cb, p, none⟩ (.int .i64 (z + 1))) (.slice (some ⟨cb, 0, none⟩) nt nt) ((c).set p (z + 1))) := Lib.hid hset.1
        have HB : Hid (Below W6.heap.size Y (Y.setCell ⟨cb, p, none⟩ (.int .i64 (z + 1)))) := Lib.hid (hset.2.below (fun j e => by omega) hbe5.below.size)
        have Hbs := Lib.hid hbase
        have Hb5 := Lib.hid hbe5
        have hne1 : ¬ cb = B1 := by omega
        have hne2 : ¬ B1 = cb := by omega
        have g20 : decide ((20 : Int) < z + 1) = false := decide_eq_false (by omega)
        have g20n : ¬ (20 : Int) < z + 1 := by omega
        have hz1 : -9223372036854775808 ≤ z + 1 := by omega
        have hz2 : z + 1 ≤ 9223372036854775807 := by omega
        clear hset hOW hz hbase hgz hbe4 hbe5 hLen hoc4
        go_wp2
        go_roundw
        case rel => exact ⟨0 + 1, cb, (c).set p (z + 1), by omega, by go_num, rfl, HR.out, Lib.hid (by rw [Hbs.out]), Hb5.out.go HB.out (FisAt.far Hlog6.out (Hb5.out.below.trans HB.out))⟩
        case measure => simp [intOf]; omega
      · obtain ⟨j, hj⟩ : ∃ j, k = j + 1 := ⟨k - 1, by omega⟩
        have hnl2 : nl ≤ 2000 := Hll.out
        have hkj : (k : Int) - 1 = (j : Int) := by omega
        have hkj1 : wrap64 (j : Int) = (j : Int) := IntWalk.wrap64_in _ (by have := Hll.out; omega)
        have g4 : (0 : Int) < (k : Int) := by omega
        have g4n : 0 < k := by omega
        have hjl : (j : Int) < (nl : Int) := by omega
        obtain ⟨⟨yt, yi⟩, hy⟩ := at_lt (l := u.log) (k := j) (by rw [← Hnl.out]; omega)
        have hyx := Hq8.out j _ hj hy
        simp only at hyx
        have Hprev : Hid ((cntSt nt (u.log.take k)).1 = some yt) := Lib.hid (by rw [hj]; exact cntSt_prev hy)
        have g6 : decide (xt < yt) = false := decide_eq_false (by omega)
        obtain ⟨bq, oq, eq, hgq, y0, _⟩ := FisAt.at_ Hbe.out.log hy
        injection eq with eq
        injection eq with eq1 eq2 _
        subst eq1
        subst eq2
        simp only at y0
        have Hy := Lib.hid hy
        have Hj := Lib.hid hj
        clear h0 hj hy hyx
        go_upto_region 11 with (fail)
        by_cases hne : xt = yt
        · have Hne := Lib.hid hne
          have g7 : (xt == yt) = true := by simpa using hne
          have g8 : (xt != yt) = false := by simpa using hne
          clear hne
          go_quiet (fail)
          have xb : Below v1.heap.size v1 ((v1.alloc (.cells #[.int .i64 xt, .int .i64 (p : Int)] 51)).drewN nq) := ((Below.refl _ _).alloc (Nat.le_refl _) _).trans ((drewNb _ nq).mono (by simp))
          have x0 : ((v1.alloc (.cells #[.int .i64 xt, .int .i64 (p : Int)] 51)).drewN nq).cell? ⟨v1.heap.size, 0, none⟩ = some (.int .i64 xt) := by go_simp
          have x1 : ((v1.alloc (.cells #[.int .i64 xt, .int .i64 (p : Int)] 51)).drewN nq).cell? ⟨v1.heap.size, 1, none⟩ = some (.int .i64 (p : Int)) := by go_simp
          have xl : v1.heap.size < ((v1.alloc (.cells #[.int .i64 xt, .int .i64 (p : Int)] 51)).drewN nq).heap.size := by simp
          have hbe2 := Hbe.out.up xb
          have hoc2 := Hoc.out.below xb
          have hcb1 := Hoc.out.lt.2
          obtain ⟨B1, hB1⟩ : ∃ q, q = v1.heap.size := ⟨_, rfl⟩
          rw [← hB1] at x0 x1 xl hcb1 ⊢
          clear xb hB1 d0 d3 e1 rl bl z0 z1 hg
          have HH := And.intro x0 (And.intro x1 (And.intro xl (And.intro hbe2 hoc2)))
          clear x0 x1 xl hbe2 hoc2
          revert HH
          generalize ((v1.alloc (.cells #[.int .i64 xt, .int .i64 (p : Int)] 51)).drewN nq) = X
          rintro ⟨x0, x1, xl, hbe2, hoc2⟩
          obtain ⟨bq, oq, eq, hgq, y0, _⟩ := FisAt.at_ hbe2.log Hy.out
          injection eq with eq
          injection eq with eq1 eq2 _
          subst eq1
          subst eq2
          simp only at y0
          have d0 := hbe2.d0
          have e1 := hbe2.e1
          have rl := hbe2.lt.1
          have bl := hbe2.lt.2
          have Hbe3 := Lib.hid hbe2
          have Hoc3 := Lib.hid hoc2
          clear hbe2 hoc2 Hoc Hbe
          go_upto_region 13 with (fail)
          go_quiet (fail)
          have hbe4 := Hbe3.out.up (drewNb X nq)
          have hoc4 := Hoc3.out.below (drewNb X nq)
          have w0' : (X.drewN nq).cell? ⟨B1, 0, none⟩ = some (.int .i64 xt) := by go_simp
          have w1' : (X.drewN nq).cell? ⟨B1, 1, none⟩ = some (.int .i64 (p : Int)) := by go_simp
          have wl' : B1 < (X.drewN nq).heap.size := by simpa using xl
          clear x0 x1 xl d0 e1 rl bl y0 hgq
          have HH := And.intro hbe4 (And.intro hoc4 (And.intro w0' (And.intro w1' wl')))
          clear hbe4 hoc4 w0' w1' wl'
          revert HH
          generalize X.drewN nq = Y
          rintro ⟨hbe4, hoc4, w0, w1, wl⟩
          have d0 := hbe4.d0
          have e1 := hbe4.e1
          have rl := hbe4.lt.1
          have bl := hbe4.lt.2
          have hbe5 := hbe4
          have hOW := hoc4
          have hLen : c.length = nt := by rw [Hc.out]; exact cntSt_len _ _
          obtain ⟨z, hz⟩ := at_lt (l := c) (k := p) (by rw [hLen]; exact hpn)
          have hbase : cntSt nt (u.log.take (k + 1)) = (some xt, c.set p (getI c p + 1)) := by rw [Hst.out]; unfold cntStep; rw [if_pos (.inr (by rw [Hprev.out, Hne.out])), ← Hc.out]; rfl
          have hgz : getI (c) (p : Int) = z := getI_at hz
          rw [hgz] at hbase
          have hz20 : z + 1 ≤ 20 := by
            have := Hq6.out
            rw [hbase, show getI ((c).set p (z + 1)) (p : Int) = z + 1 from getI_at (by rw [List.getElem?_set_self (by rw [hLen]; exact hpn)])] at this
            exact this
          have hz0 : 0 ≤ z := by rw [← hgz]; exact getI_nonneg (by rw [Hc.out]; exact cnt_nonneg _ _) _
          have hwz : wrap64 (z + 1) = z + 1 := IntWalk.wrap64_in _ (by omega)
          have c0 := hOW.cell hz
          have f0 := hOW.froz p
          have fl := hOW.lt.2
          have hcbw := hOW.lt.1
          have hset := hOW.set p (z + 1) (by rw [hLen]; exact hpn)
          have HR : Hid (OwnI W6.heap.size (Y.setCell ⟨cb, p, none⟩ (.int .i64 (z + 1))) (.slice (some ⟨cb, 0, none⟩) nt nt) ((c).set p (z + 1))) := Lib.hid hset.1
          have HB : Hid (Below W6.heap.size Y (Y.setCell ⟨cb, p, none⟩ (.int .i64 (z + 1)))) := Lib.hid (hset.2.below (fun j e => by omega) hbe5.below.size)
          have Hbs := Lib.hid hbase
          have Hb5 := Lib.hid hbe5
          have hne1 : ¬ cb = B1 := by omega
          have hne2 : ¬ B1 = cb := by omega
          have g20 : decide ((20 : Int) < z + 1) = false := decide_eq_false (by omega)
          have g20n : ¬ (20 : Int) < z + 1 := by omega
          have hz1 : -9223372036854775808 ≤ z + 1 := by omega
          have hz2 : z + 1 ≤ 9223372036854775807 := by omega
          clear hset hOW hz hbase hgz hbe4 hbe5 hLen hoc4
          go_wp2
          go_roundw
          case rel => exact ⟨k + 1, cb, (c).set p (z + 1), by omega, by go_num, rfl, HR.out, Lib.hid (by rw [Hbs.out]), Hb5.out.go HB.out (FisAt.far Hlog6.out (Hb5.out.below.trans HB.out))⟩
          case measure => simp [intOf]; omega
        · have Hne := Lib.hid hne
          have g7 : (xt == yt) = false := by simpa using hne
          have g8 : (xt != yt) = true := by simpa using hne
          clear hne
          go_quiet (fail)
          have xb : Below v1.heap.size v1 ((v1.alloc (.cells #[.int .i64 xt, .int .i64 (p : Int)] 51)).drewN nq) := ((Below.refl _ _).alloc (Nat.le_refl _) _).trans ((drewNb _ nq).mono (by simp))
          have x0 : ((v1.alloc (.cells #[.int .i64 xt, .int .i64 (p : Int)] 51)).drewN nq).cell? ⟨v1.heap.size, 0, none⟩ = some (.int .i64 xt) := by go_simp
          have x1 : ((v1.alloc (.cells #[.int .i64 xt, .int .i64 (p : Int)] 51)).drewN nq).cell? ⟨v1.heap.size, 1, none⟩ = some (.int .i64 (p : Int)) := by go_simp
          have xl : v1.heap.size < ((v1.alloc (.cells #[.int .i64 xt, .int .i64 (p : Int)] 51)).drewN nq).heap.size := by simp
          have hbe2 := Hbe.out.up xb
          have hoc2 := Hoc.out.below xb
          have hcb1 := Hoc.out.lt.2
          obtain ⟨B1, hB1⟩ : ∃ q, q = v1.heap.size := ⟨_, rfl⟩
          rw [← hB1] at x0 x1 xl hcb1 ⊢
          clear xb hB1 d0 d3 e1 rl bl z0 z1 hg
          have HH := And.intro x0 (And.intro x1 (And.intro xl (And.intro hbe2 hoc2)))
          clear x0 x1 xl hbe2 hoc2
          revert HH
          generalize ((v1.alloc (.cells #[.int .i64 xt, .int .i64 (p : Int)] 51)).drewN nq) = X
          rintro ⟨x0, x1, xl, hbe2, hoc2⟩
          obtain ⟨bq, oq, eq, hgq, y0, _⟩ := FisAt.at_ hbe2.log Hy.out
          injection eq with eq
          injection eq with eq1 eq2 _
          subst eq1
          subst eq2
          simp only at y0
          have d0 := hbe2.d0
          have e1 := hbe2.e1
          have rl := hbe2.lt.1
          have bl := hbe2.lt.2
          have Hbe3 := Lib.hid hbe2
          have Hoc3 := Lib.hid hoc2
          clear hbe2 hoc2 Hoc Hbe
          go_upto_region 13 with (fail)
          go_quiet (fail)
          have hbe4 := Hbe3.out.up (drewNb X nq)
          have hoc4 := Hoc3.out.below (drewNb X nq)
          have w0' : (X.drewN nq).cell? ⟨B1, 0, none⟩ = some (.int .i64 xt) := by go_simp
          have w1' : (X.drewN nq).cell? ⟨B1, 1, none⟩ = some (.int .i64 (p : Int)) := by go_simp
          have wl' : B1 < (X.drewN nq).heap.size := by simpa using xl
          clear x0 x1 xl d0 e1 rl bl y0 hgq
          have HH := And.intro hbe4 (And.intro hoc4 (And.intro w0' (And.intro w1' wl')))
          clear hbe4 hoc4 w0' w1' wl'
          revert HH
          generalize X.drewN nq = Y
          rintro ⟨hbe4, hoc4, w0, w1, wl⟩
          have d0 := hbe4.d0
          have e1 := hbe4.e1
          have rl := hbe4.lt.1
          have bl := hbe4.lt.2
          obtain ⟨w8, hmk, ho8, hb8⟩ := HNW.out Y
          have hbe5 := hbe4.up hb8
          have v0 := (below_cells hb8 B1 0 wl).trans w0
          have v1' := (below_cells hb8 B1 1 wl).trans w1
          have vl : B1 < w8.heap.size := Nat.lt_of_lt_of_le wl hb8.size
          have hOW : OwnI W6.heap.size w8 (.slice (some ⟨Y.heap.size, 0, none⟩) nt nt) (zerosL nt) := own_mono ho8 hbe4.below.size
          clear hoc4 ho8 hb8
          have hLen : (zerosL nt).length = nt := by simp [zerosL]
          obtain ⟨z, hz⟩ := at_lt (l := zerosL nt) (k := p) (by rw [hLen]; exact hpn)
          have hbase : cntSt nt (u.log.take (k + 1)) = (some xt, (zerosL nt).set p (getI (zerosL nt) p + 1)) := by rw [Hst.out]; unfold cntStep; rw [if_neg (by rw [Hprev.out]; simp; exact fun e => Hne.out e.symm)]; rfl
          have hgz : getI (zerosL nt) (p : Int) = z := getI_at hz
          rw [hgz] at hbase
          have hz20 : z + 1 ≤ 20 := by
            have := Hq6.out
            rw [hbase, show getI ((zerosL nt).set p (z + 1)) (p : Int) = z + 1 from getI_at (by rw [List.getElem?_set_self (by rw [hLen]; exact hpn)])] at this
            exact this
          have hz0 : 0 ≤ z := by rw [← hgz]; exact getI_nonneg (by exact zeros_nonneg nt) _
          have hwz : wrap64 (z + 1) = z + 1 := IntWalk.wrap64_in _ (by omega)
          have c0 := hOW.cell hz
          have f0 := hOW.froz p
          have fl := hOW.lt.2
          have hcbw := hOW.lt.1
          have hset := hOW.set p (z + 1) (by rw [hLen]; exact hpn)
          have HR : Hid (OwnI W6.heap.size (w8.setCell ⟨Y.heap.size, p, none⟩ (.int .i64 (z + 1))) (.slice (some ⟨Y.heap.size, 0, none⟩) nt nt) ((zerosL nt).set p (z + 1))) := Lib.hid hset.1
          have HB : Hid (Below W6.heap.size w8 (w8.setCell ⟨Y.heap.size, p, none⟩ (.int .i64 (z + 1)))) := Lib.hid (hset.2.below (fun j e => by omega) hbe5.below.size)
          have Hbs := Lib.hid hbase
          have Hb5 := Lib.hid hbe5
          have hne1 : ¬ Y.heap.size = B1 := by omega
          have hne2 : ¬ B1 = Y.heap.size := by omega
          have g20 : decide ((20 : Int) < z + 1) = false := decide_eq_false (by omega)
          have g20n : ¬ (20 : Int) < z + 1 := by omega
          have hz1 : -9223372036854775808 ≤ z + 1 := by omega
          have hz2 : z + 1 ≤ 9223372036854775807 := by omega
          clear hset hOW hz hbase hgz hbe4 hbe5 hLen
          go_wp2
          go_roundw
          case rel => exact ⟨k + 1, Y.heap.size, (zerosL nt).set p (z + 1), by omega, by go_num, rfl, HR.out, Lib.hid (by rw [Hbs.out]), Hb5.out.go HB.out (FisAt.far Hlog6.out (Hb5.out.below.trans HB.out))⟩
          case measure => simp [intOf]; omega
    · have hge : ¬ (k : Int) < (nl : Int) := by omega
      have Hll2 : (nl : Int) ≤ 2000 := by have := Hll.out; omega
      go_wp2
      go_ret
      exact ⟨rfl, HW.out.trans (Hbe.out.below.mono HW.out.size)⟩

theorem times9_law {w : World} {aT aA : Option Addr} {cTok cA : Nat} {hz : Int} (uz : (Lit.int .u8 hz).wf = true) {ts : List Nat} {acs : List Ac} (h : DraftAt w (.slice aT ts.length cTok) (.slice aA acs.length cA) ts acs) :
    Calls Try.prog 7 #[.agg #[.slice aT ts.length cTok, .slice aA acs.length cA], .int .u8 hz] w fun e w' => e = .returned (.bool true) ∧ Below w.heap.size w w' := by
  obtain ⟨hz, rfl, _⟩ := u8_nat uz
  by_cases h60 : ts.length ≤ 60
  · by_cases h12 : acs.length ≤ 12
    · exact times9_small h h60 h12
    · exact times9_big (.inr (by omega))
  · exact times9_big (.inl (by omega))
end Go.Proofs.Ytfekgcfojhbngaa
