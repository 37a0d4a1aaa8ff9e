/-
  The walk of the law SwiftSteps: an engine, time by time, is as far as it has gone what a run up to there has come to.
  Conditions: none beyond the theorems' own.
-/
import Derived.Test.YtpbbdnicafifpaaAwake10
import Derived.Test.YtpbbdnicafifpaaFew10
import Derived.Test.YtpbbdnicafifpaaR9R
import Derived.Test.YtpbbdnicafifpaaR9S
import Derived.Test.YtpbbdnicafifpaaAllB
import Derived.Test.YtpbbdnicafifpaaStepsM
import Derived.Deep.RegionHeld3
namespace Go.Proofs.Ytpbbdnicafifpaa
open Go.RowKit
set_option linter.unusedVariables false

/-- a result that an engine hands out, as a run's -/
theorem EgSt.untold {c : EC} {mine : Nat → Bool} {e : Eg} {u : St} (h : EgSt c mine e u) : EgSt c mine {e with told := []} u := ⟨h.heap, h.perm, h.m, h.log, h.way, h.rq, h.cov⟩
theorem EgRes.at_ {w w' : World} {r : Ending} {c : EC} {mine : Nat → Bool} {e : Eg} {u : St} {np nl : Nat} {t : Int} (h : EgRes w w' r e) (hS : EgSt c mine e u) (hm : u.m.length = np) (hc : c.n.places.length = np) (hl : nl = u.log.length) (ht : e.t = t) :
    ∃ al cl am cm aw cw, r = .returned (.agg #[.slice al nl cl, .slice am np cm, .slice aw np cw, .int .i64 t]) ∧ ResAt w' (.slice al nl cl) (.slice am np cm) (.slice aw np cw) u ∧ Below w.heap.size w w' := by
  obtain ⟨al, cl, am, cm, aw, cw, rfl, f1, f2, f3, _, hb⟩ := h
  have e1 : e.log.length = nl := by rw [hS.log, hl]
  have e2 : e.m.length = np := by rw [hS.m, hm]
  have e3 : e.way.length = np := by rw [hS.way, wayL_len, hc]
  rw [e1, hS.log] at f1
  rw [e2, hS.m] at f2
  rw [e3, hS.way, hc, ← hm] at f3
  refine ⟨al, cl, am, cm, aw, cw, ?_, ⟨f1, f2, ?_⟩, hb⟩
  · rw [e1, e2, e3, ht]; rfl
  · rw [← hm]; exact f3

set_option maxRecDepth 100000 in
set_option maxHeartbeats 4000000 in
theorem ssteps_big {w : World} {aT aA : Option Addr} {cTok cA nT nA : Nat} {hz : Nat} (h : 60 < nT ∨ 12 < nA) :
    Calls Try.prog 9 #[.agg #[.slice aT nT cTok, .slice aA nA cA], .int .u8 hz] w fun e w' => e = .returned (.bool true) ∧ Below w.heap.size w w' := by
  have Hfew : Hid (false = (decide (nT ≤ 60) && decide (nA ≤ 12))) := Lib.hid (by rcases h with h | h <;> simp <;> omega)
  clear h
  go_enter Try.func9, Try.ntmps9
  go_wp2_with fail
  refine (awake10 _).mono ?_
  rintro e w1 ⟨rfl, hb⟩
  have hi := (InBx.start 25 w (.slice aT nT cTok) (.slice aA nA cA)).go hb
  have b0 := hi.c0
  have b1 := hi.c1
  have Hi := Lib.hid hi
  clear hb hi
  go_wp2_with fail
  refine (few10_any false Hfew.out).mono ?_
  rintro e w2 ⟨rfl, hb2⟩
  have Hi2 := Lib.hid (Hi.out.go hb2)
  clear b0 b1 hb2
  go_wp2_with fail
  refine (awake10 _).mono ?_
  rintro e w3 ⟨rfl, hb3⟩
  have Hi3 := Lib.hid (Hi2.out.go hb3)
  clear hb3
  go_wp2
  go_ret
  exact ⟨rfl, Hi3.out.old⟩

set_option maxRecDepth 100000 in
set_option maxHeartbeats 4000000 in
theorem ssteps_small {w : World} {aT aA : Option Addr} {cTok cA : Nat} {hz : Nat} {ts : List Nat} {acs : List Ac} (h : DraftAt w (.slice aT ts.length cTok) (.slice aA acs.length cA) ts acs) (h60 : ts.length ≤ 60) (h12 : acs.length ≤ 12) :
    Calls Try.prog 9 #[.agg #[.slice aT ts.length cTok, .slice aA acs.length cA], .int .u8 hz] w fun e w' => e = .returned (.bool true) ∧ Below w.heap.size w w' := by
  have Hmake : Hid (∀ W : World, Below w.heap.size w W → Calls Try.prog 16 #[.agg #[.slice aT ts.length cTok, .slice aA acs.length cA]] W fun e w' => ∃ vp vt, e = .returned (.agg #[vp, vt]) ∧ NetOwn W.heap.size w' vp vt (makeN ts acs) ∧ Below W.heap.size W w') := Lib.hid (fun W hW => make_any (h.below hW))
  have Hchk := Lib.hid (makeN_check (ts := ts) h.ok)
  have Hnm := Lib.hid (makeN_names9 ts acs)
  have Hpos : Hid (1 ≤ (makeN ts acs).places.length) := Lib.hid (by have := cntP_bd ts; rw [show (makeN ts acs).places.length = cntP ts from plsOf_len _ _]; omega)
  obtain ⟨N, hN⟩ : ∃ N, N = makeN ts acs := ⟨_, rfl⟩
  rw [← hN] at Hmake Hchk Hnm Hpos
  obtain ⟨nT, hnT⟩ : ∃ k, k = ts.length := ⟨_, rfl⟩
  obtain ⟨nA, hnA⟩ : ∃ k, k = acs.length := ⟨_, rfl⟩
  rw [← hnT, ← hnA] at Hmake ⊢
  have Hfew : Hid (true = (decide (nT ≤ 60) && decide (nA ≤ 12))) := Lib.hid (by simp; omega)
  clear h hnT hnA h60 h12 hN
  go_enter Try.func9, Try.ntmps9
  go_wp2_with fail
  refine (awake10 _).mono ?_
  rintro e w1 ⟨rfl, hb⟩
  have hi := (InBx.start 25 w (.slice aT nT cTok) (.slice aA nA cA)).go hb
  have b0 := hi.c0
  have b1 := hi.c1
  have Hi := Lib.hid hi
  clear hb hi
  go_wp2_with fail
  refine (few10_any true Hfew.out).mono ?_
  rintro e w2 ⟨rfl, hb2⟩
  clear b0 b1
  have hi := Hi.out.go hb2
  have b0 := hi.c0
  have b1 := hi.c1
  have Hi2 := Lib.hid hi
  clear hb2 hi
  go_wp2_with fail
  refine (Hmake.out _ Hi2.out.old).mono ?_
  rintro e w3 ⟨vp, vt, rfl, hno, hb3⟩
  have hna := hno.at_
  obtain ⟨a1, np, c1, a2, nt, c2, rfl, rfl, hnp, hnt⟩ := hna.form2
  have Hi3 := Lib.hid (Hi2.out.go hb3)
  have hnew : Below w3.heap.size w3 (w3.alloc (.cells #[.slice a1 np c1, .slice a2 nt c2] 31)) := (Below.refl _ _).alloc (Nat.le_refl _) _
  have Hnew := Lib.hid hnew
  have HB3 := Lib.hid Hi3.out.old
  have Hna3 := Lib.hid hna
  have Hnt := Lib.hid hnt
  have Hnp := Lib.hid hnp
  clear hno hb3 b0 b1 hna hnew hnt hnp
  obtain ⟨w4, hw4⟩ : ∃ w4, w4 = w3.alloc (.cells #[.slice a1 np c1, .slice a2 nt c2] 31) := ⟨_, rfl⟩
  have n0 : w4.cell? ⟨w3.heap.size, 0, none⟩ = some (.slice a1 np c1) := by rw [hw4]; go_simp
  have n1 : w4.cell? ⟨w3.heap.size, 1, none⟩ = some (.slice a2 nt c2) := by rw [hw4]; go_simp
  have nl0 : w3.heap.size < w4.heap.size := by rw [hw4]; simp
  have Hw4 := Lib.hid hw4
  rw [← hw4] at Hnew
  have hnt32 : nt ≤ 32 := by rw [Hnt.out]; exact (checkN_nok Hchk.out).tr
  have hnp32 : np ≤ 32 := by rw [Hnp.out]; exact (checkN_nok Hchk.out).pl
  have Hnok := Lib.hid (checkN_nok Hchk.out)
  have Hall := Lib.hid (fun W => all_any (w := W) (n := nt) (by omega))
  have Hnw0 : Hid (∀ (W : World) (g : Nat), Below w4.heap.size w4 W → BoolsAt W (.slice (some ⟨g, 0, none⟩) nt nt) (List.replicate nt true) → Calls Try.prog 32 #[.agg #[.slice a1 np c1, .slice a2 nt c2], .slice (some ⟨g, 0, none⟩) nt nt, .slice none 0 0] W fun r w' => ∃ c e, r = .returned (.pointer (some ⟨c.b, 0, none⟩)) ∧ EOk c ∧ c.n = N ∧ c.aw = awayOf np [] ∧ EyesOk c (mineOf nt (List.replicate nt true)) ∧ EgAt W w' c e ∧ EgSt c (mineOf nt (List.replicate nt true)) e (start N) ∧ e.told = [] ∧ e.t = 0) :=
    Lib.hid (fun W g hW ho => new_any Hnp.out Hnt.out (Hna3.out.below (Hnew.out.trans (hW.mono Hnew.out.size))) Hnm.out Hchk.out (by simp) rfl ho (RowAt.nil _ _))
  obtain ⟨M, hM⟩ : ∃ M, M = w3.heap.size := ⟨_, rfl⟩
  have HMe := Lib.hid hM
  rw [← hM] at n0 n1 nl0
  have S0 := Lib.hid (fun (W : World) (hW : Below w4.heap.size w4 W) => And.intro ((below_cells hW M 0 nl0).trans n0) ((below_cells hW M 1 nl0).trans n1))
  have HB4 := Lib.hid (HB3.out.trans (Hnew.out.mono HB3.out.size))
  clear hw4 hM nl0
  go_upto_region 4 with (fail)
  rw [← Hw4.out, ← HMe.out]
  have H := Lib.hid ((Below.refl w4.heap.size w4).drew)
  have kk := S0.out _ H.out
  go_cut [6] from 23 to 28 (fun s6 wc => ∃ c e, s6 = .pointer (some ⟨c.b, 0, none⟩) ∧ EOk c ∧ c.n = N ∧ c.aw = awayOf np [] ∧ EyesOk c (mineOf nt (List.replicate nt true)) ∧ (∃ W, EgAt W wc c e ∧ Below w4.heap.size w4 W) ∧ EgSt c (mineOf nt (List.replicate nt true)) e (start N) ∧ e.told = [] ∧ e.t = 0)
  case first =>
    go_region_held3 (fun w' => w'.cell? ⟨M, 0, none⟩ = some (.slice a1 np c1) ∧ w'.cell? ⟨M, 1, none⟩ = some (.slice a2 nt c2)) (first | go_keep | exact kk) (first | (go_simp; go_at_call 33; refine (Hall.out _).mono ?_; rintro r wa ⟨g, rfl, ho, h4⟩; have H := Lib.hid (H.out.trans (h4.mono H.out.size)); have kk := S0.out _ H.out; have HBo := Lib.hid (show BoolsAt wa (.slice (some ⟨g, 0, none⟩) nt nt) (List.replicate nt true) from RowAt.of_own ho); clear ho h4) | (go_simp; go_at_call 32; refine (Hnw0.out _ _ H.out HBo.out).mono ?_; rintro r wb ⟨c, e, rfl, q1, q2, q3, q4, q5, q6, q7, q8⟩; have kk := S0.out _ (H.out.trans (q5.low.mono H.out.size)); have HQ := Lib.hid (And.intro q1 (And.intro q2 (And.intro q3 (And.intro q4 (And.intro (show ∃ W, EgAt W wb c e ∧ Below w4.heap.size w4 W from ⟨_, q5, H.out⟩) (And.intro q6 (And.intro q7 q8))))))); clear q1 q2 q3 q4 q5 q6 q7 q8))
    all_goals
      clear kk
      go_wp2
      go_meet
      case rel => exact ⟨c, e, rfl, HQ.out⟩
  case rest =>
    rename World => W5
    obtain ⟨c, e, rfl, hc, hcn, haw, hE, ⟨W4, hg, hW4⟩, hS, hto, ht0⟩ := hcut
    have hawb := awB_none haw
    have Hc := Lib.hid hc
    have HEy := Lib.hid hE
    have Hawb := Lib.hid hawb
    have Hcn := Lib.hid hcn
    have Haw := Lib.hid (show c.aw.length = c.n.places.length by rw [haw, awayOf_len, hcn, Hnp.out])
    have HM : Hid (Masked c.n.trans N.trans (mineOf nt (List.replicate nt true)) (awB c)) := Lib.hid (by rw [hawb, hcn]; exact Masked.all _ _ (fun i hi => mineOf_all (by rw [Hnt.out]; exact hi)))
    have S4 := Lib.hid (fun (W : World) (hW : Below W4.heap.size W4 W) => S0.out W (hW4.trans (hW.mono hW4.size)))
    have HBW := Lib.hid (HB4.out.trans (hW4.mono HB4.out.size))
    have HN4 := Lib.hid (fun (W : World) (hW : Below W4.heap.size W4 W) => (Hna3.out.below (Hnew.out.trans ((hW4.trans (hW.mono hW4.size)).mono Hnew.out.size))))
    have Hg := Lib.hid hg
    have HS := Lib.hid hS
    have Hto := Lib.hid hto
    have HI0 : Hid (Inv N 0 (start N) ∧ runN N 0 = ((instAll N.trans 0 (start N)).1, 0, (instAll N.trans 0 (start N)).2)) := Lib.hid ⟨start_inv Hnok.out, runN_zero Hnok.out⟩
    clear hc haw hE hg hW4 hS hto ht0 hawb hcn n0 n1 kk H Hall Hnw0
    go_wp2
    go_loopw [7, 8] (fun s7 s8 wr => ∃ (k : Nat) (tt : Int) (u : St) (e1 : Eg), s7 = .int .i64 tt ∧ s8 = .int .i64 k ∧ k ≤ 12 ∧ EgAt W4 wr c e1 ∧ EgSt c (mineOf nt (List.replicate nt true)) e1 u ∧ e1.told = [] ∧ Hid (0 ≤ tt → Inv N tt u ∧ runN N tt = ((instAll N.trans tt u).1, tt, (instAll N.trans tt u).2))) (fun s7 s8 _ => 12 - (intOf s8).toNat)
    case atStart => exact ⟨0, 0, start N, e, rfl, rfl, by omega, Hg.out, HS.out, Hto.out, Lib.hid (fun _ => HI0.out)⟩
    case round =>
      rename World => v1
      obtain ⟨k, tt, u, e1, rfl, rfl, hk, hE1, hS1, hto1, HK⟩ := hrel
      by_cases g0 : (k : Int) < (hz : Int) % 12
      · by_cases g1 : 0 ≤ tt
        · obtain ⟨hi, hrn⟩ := HK.out g1
          have hin := einstant_any (t := tt) Hc.out HEy.out Haw.out hE1 Hnok.out hi (by rw [Hcn.out]) HM.out hS1 (by rw [hto1]; simp)
          obtain ⟨i1, i2, i3⟩ := instAll_inv Hnok.out hi
          have HIn := Lib.hid hin
          have Hi1 := Lib.hid i1
          have Hi2 := Lib.hid i2
          have Hto1 := Lib.hid hto1
          have HU : Hid ((instAll N.trans tt u).1.m.length = np ∧ (instAll N.trans tt u).1.log.length ≤ 2000) := Lib.hid ⟨by rw [i1.len, Hnp.out], i1.ll⟩
          have Hrn := Lib.hid hrn
          clear hi hE1 hS1 hin i1 i2 i3 hto1 hrn HK
          generalize instAll N.trans tt u = X at HIn Hi1 Hi2 HU Hrn
          obtain ⟨u2, er⟩ := X
          simp only at HIn Hi1 Hi2 HU Hrn
          have g1b : decide (0 ≤ tt) = true := decide_eq_true g1
          go_wp2_with fail
          refine HIn.out.mono ?_
          rintro r w6 ⟨rfl, e2, lg, hE2, hS2, ht2, _, hto2⟩
          have hto3 : e2.told = [] := by rw [hto2, Hto1.out, told_none Hawb.out]; rfl
          have hrr := rrun_any (w := w6) (h := tt) Hnp.out Hnt.out (HN4.out w6 hE2.low) Hnok.out
          rw [Hrn.out] at hrr
          have Hrr := Lib.hid hrr
          obtain ⟨x0, x1⟩ := S4.out w6 hE2.low
          have HE2 := Lib.hid hE2
          have HS2 := Lib.hid hS2
          have Ht2 := Lib.hid ht2
          have Hto3 := Lib.hid hto3
          clear hE2 hS2 ht2 hto2 hto3 hrr
          go_wp2_with fail
          refine Hrr.out.mono ?_
          rintro r w7 ⟨al, nl, cl, am, cm, aw, cw, rfl, hnl, hres, hb7⟩
          simp only [resV]
          obtain ⟨w8, hw8⟩ : ∃ w8, w8 = w7.alloc (.cells #[.slice al nl cl, .slice am np cm, .slice aw np cw, .int .i64 tt] 51) := ⟨_, rfl⟩
          have hb78 : Below w7.heap.size w7 w8 := by rw [hw8]; exact (Below.refl _ _).alloc (Nat.le_refl _) _
          have p0 : w8.cell? ⟨w7.heap.size, 0, none⟩ = some (.slice al nl cl) := by rw [hw8]; go_simp
          have p1 : w8.cell? ⟨w7.heap.size, 1, none⟩ = some (.slice am np cm) := by rw [hw8]; go_simp
          have p2 : w8.cell? ⟨w7.heap.size, 2, none⟩ = some (.slice aw np cw) := by rw [hw8]; go_simp
          have p3 : w8.cell? ⟨w7.heap.size, 3, none⟩ = some (.int .i64 tt) := by rw [hw8]; go_simp
          have pl : w7.heap.size < w8.heap.size := by rw [hw8]; simp
          obtain ⟨P, hP⟩ : ∃ P, P = w7.heap.size := ⟨_, rfl⟩
          have hb68 : Below w6.heap.size w6 w8 := hb7.trans (hb78.mono hb7.size)
          have hres8 : ResAt w8 (.slice al nl cl) (.slice am np cm) (.slice aw np cw) u2 := ⟨FisAt.below hres.1 hb78, IntsAt.below hres.2.1 hb78, IntsAt.below hres.2.2 hb78⟩
          have HE8 := Lib.hid (fun (W : World) (hW : Below w8.heap.size w8 W) => HE2.out.go (hb68.trans (hW.mono hb68.size)))
          rw [← hP] at p0 p1 p2 p3 pl
          have C8 := Lib.hid (fun (W : World) (hW : Below w8.heap.size w8 W) => And.intro ((below_cells hW P 0 pl).trans p0) (And.intro ((below_cells hW P 1 pl).trans p1) (And.intro ((below_cells hW P 2 pl).trans p2) ((below_cells hW P 3 pl).trans p3))))
          have HRs : Hid (∀ W : World, Below w8.heap.size w8 W → Calls Try.prog 35 #[.pointer (some ⟨c.b, 0, none⟩)] W fun r w' => ∃ al cl am cm aw cw, r = .returned (.agg #[.slice al nl cl, .slice am np cm, .slice aw np cw, .int .i64 tt]) ∧ ResAt w' (.slice al nl cl) (.slice am np cm) (.slice aw np cw) u2 ∧ Below W.heap.size W w') :=
            Lib.hid (fun W hW => (eresult_any (HE8.out W hW) (by rw [HS2.out.log]; have := HU.out.2; omega) (by rw [HS2.out.m]; have := HU.out.1; omega) (by rw [HS2.out.way, wayL_len, Hcn.out, ← Hnp.out]; omega)).mono (fun r w' hr => hr.at_ HS2.out HU.out.1 (by rw [Hcn.out, Hnp.out]) hnl Ht2.out))
          have HSm : Hid (∀ W : World, Below w8.heap.size w8 W → ∀ al1 cl1 am1 cm1 aw1 cw1, ResAt W (.slice al1 nl cl1) (.slice am1 np cm1) (.slice aw1 np cw1) u2 → Calls Try.prog 31 #[.agg #[.slice al1 nl cl1, .slice am1 np cm1, .slice aw1 np cw1, .int .i64 tt], .agg #[.slice al nl cl, .slice am np cm, .slice aw np cw, .int .i64 tt]] W fun r w' => r = .returned (.bool true) ∧ Below W.heap.size W w') :=
            Lib.hid (fun W hW al1 cl1 am1 cm1 aw1 cw1 h1 => rsame_same (w := W) (t := tt) hnl HU.out.1.symm rfl h1 ⟨FisAt.below hres8.1 hW, IntsAt.below hres8.2.1 hW, IntsAt.below hres8.2.2 hW⟩)
          have Hw8 := Lib.hid hw8
          have HPe := Lib.hid hP
          have hne0 : (er != er) = false := by simp
          have hne1 : (er == er) = true := by simp
          have H := Lib.hid ((Below.refl w8.heap.size w8).drew)
          have kk := C8.out _ H.out
          clear hnl hres hb7 hb78 p0 p1 p2 p3 pl hw8 hP hb68 hres8 x0 x1 Hrr
          go_upto_region 11 with (fail)
          rw [← Hw8.out, ← HPe.out]
          go_region_held3 (fun w' => w'.cell? ⟨P, 0, none⟩ = some (.slice al nl cl) ∧ w'.cell? ⟨P, 1, none⟩ = some (.slice am np cm) ∧ w'.cell? ⟨P, 2, none⟩ = some (.slice aw np cw) ∧ w'.cell? ⟨P, 3, none⟩ = some (.int .i64 tt)) (first | go_keep | exact kk) (first | (go_simp; go_at_call 35; refine (HRs.out _ H.out).mono ?_; rintro r wa ⟨al1, cl1, am1, cm1, aw1, cw1, rfl, hr1, h4⟩; have H := Lib.hid (H.out.trans (h4.mono H.out.size)); have kk := C8.out _ H.out; have HR1 := Lib.hid hr1; clear h4 hr1) | (go_simp; go_at_call 31; refine (HSm.out _ H.out _ _ _ _ _ _ HR1.out).mono ?_; rintro r wb ⟨rfl, h4⟩; have H := Lib.hid (H.out.trans (h4.mono H.out.size)); have kk := C8.out _ H.out; clear h4))
          all_goals
            have hE9 := HE8.out _ H.out
            have HE9 := Lib.hid hE9
            have HBF := Lib.hid (HBW.out.trans (hE9.low.mono HBW.out.size))
            have Hnx := Lib.hid (enextS_any hE9 HS2.out (fun x hx => (Hi1.out.et x hx).1))
            clear kk hE9 hne0 hne1
            by_cases he : er = 0
            · subst he
              have Hni := Lib.hid (fun h0 => next_inv Hi1.out Hi2.out h0)
              have Hnr := Lib.hid (fun (z : Int) hz h0 => runN_next (z := z) Hnok.out g1 Hrn.out hz h0)
              go_wp2_with fail
              refine Hnx.out.mono ?_
              rintro r w9 ⟨rfl, hb9⟩
              have hE10 := HE9.out.go hb9
              have htl := etold_any hE10
              rw [Hto3.out] at htl
              have Htl := Lib.hid htl
              obtain ⟨z, hz⟩ : ∃ z, z = nextT u2.q := ⟨_, rfl⟩
              have Hz := Lib.hid hz
              rw [← hz]
              have hlt : 0 ≤ z → tt < z := fun h0 => (Hnr.out z hz.symm h0).1
              clear hE10 htl hb9 hz Hnx
              by_cases hz0 : 0 ≤ z
              · have hz1 := hlt hz0
                have b0 : decide (0 ≤ z) = true := decide_eq_true hz0
                have b1 : decide (z ≤ tt) = false := decide_eq_false (by omega)
                have b2 : ¬ z ≤ tt := by omega
                clear hlt
                go_wp2_with fail
                refine Htl.out.mono ?_
                rintro r w11 ⟨a9, cap9, rfl, hE11⟩
                have HE11 := Lib.hid hE11.minus
                clear hE11
                go_wp2
                go_roundw
                case rel => exact ⟨k + 1, z, u2, _, rfl, by go_num, by omega, HE11.out, HS2.out.untold, rfl, Lib.hid (fun h0 => ⟨by rw [Hz.out]; exact (Hni.out (by rw [← Hz.out]; exact h0)).2.1, (Hnr.out z Hz.out.symm h0).2⟩)⟩
                case measure => simp [intOf]; omega
              · have b0 : decide (0 ≤ z) = false := decide_eq_false hz0
                clear hlt
                go_wp2_with fail
                refine Htl.out.mono ?_
                rintro r w11 ⟨a9, cap9, rfl, hE11⟩
                have HE11 := Lib.hid hE11.minus
                clear hE11
                go_wp2
                go_roundw
                case rel => exact ⟨k + 1, z, u2, _, rfl, by go_num, by omega, HE11.out, HS2.out.untold, rfl, Lib.hid (fun h0 => absurd h0 (by omega))⟩
                case measure => simp [intOf]; omega
            · have hne : (er == 0) = false := by simpa using he
              have hne2 : (er != 0) = true := by simpa using he
              clear he
              go_wp2
              go_ret
              exact ⟨rfl, HBF.out⟩
        · have g1b : decide (0 ≤ tt) = false := decide_eq_false g1
          have HBF := Lib.hid (HBW.out.trans (hE1.low.mono HBW.out.size))
          clear hE1 hS1 hto1
          go_wp2
          go_ret
          exact ⟨rfl, HBF.out⟩
      · have HBF := Lib.hid (HBW.out.trans (hE1.low.mono HBW.out.size))
        clear hE1 hS1 hto1
        go_wp2
        go_ret
        exact ⟨rfl, HBF.out⟩

theorem ssteps_law {w : World} {aT aA : Option Addr} {cTok cA : Nat} {hz : Int} (uz : (Lit.int .u8 hz).wf = true) {ts : List Nat} {acs : List Ac} (h : DraftAt w (.slice aT ts.length cTok) (.slice aA acs.length cA) ts acs) :
    Calls Try.prog 9 #[.agg #[.slice aT ts.length cTok, .slice aA acs.length cA], .int .u8 hz] w fun e w' => e = .returned (.bool true) ∧ Below w.heap.size w w' := by
  obtain ⟨hz, rfl, _⟩ := u8_nat uz
  by_cases h60 : ts.length ≤ 60
  · by_cases h12 : acs.length ≤ 12
    · exact ssteps_small h h60 h12
    · exact ssteps_big (.inr (by omega))
  · exact ssteps_big (.inl (by omega))
end Go.Proofs.Ytpbbdnicafifpaa
