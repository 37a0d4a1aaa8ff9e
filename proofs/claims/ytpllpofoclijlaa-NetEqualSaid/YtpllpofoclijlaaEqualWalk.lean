/-
  The walk of the law NetEqual: for all drafts, and either way, it returns true.
  Conditions: none beyond each theorem's own.
-/
import Derived.Test.YtpllpofoclijlaaCopyW
import Derived.Test.YtpllpofoclijlaaInNear
import Derived.Test.YtpllpofoclijlaaEqC
import Derived.Test.YtpllpofoclijlaaSameW
import Derived.Test.YtpllpofoclijlaaNetWake
import Derived.Test.YtpllpofoclijlaaInBx
import Derived.Test.YtpllpofoclijlaaNew
import Derived.Test.YtpllpofoclijlaaTwo
import Derived.Deep.RegionLaw
namespace Go.Proofs.Ytpllpofoclijlaa
open Go.RowKit
set_option linter.unusedVariables false

theorem makeN_facts {ts : List Nat} {acs : List Ac} (h : AllOk acs) : (makeN ts acs).places.length ≤ 1000000 ∧ (makeN ts acs).trans.length ≤ 1000000 ∧ (∀ t ∈ (makeN ts acs).trans, t.inn.length ≤ 1000000 ∧ t.nt.length ≤ 1000000 ∧ t.out.length ≤ 1000000) ∧
    1 ≤ (makeN ts acs).places.length ∧ (∀ p ∈ (makeN ts acs).places, 0 ≤ p.tok ∧ p.tok < 5 ∧ p.name.size ≤ 1000) ∧ (∀ t ∈ (makeN ts acs).trans, t.name.size ≤ 1000 ∧ ∃ a, t.inn[0]? = some a ∧ 1 ≤ a.2 ∧ a.2 ≤ 1000) := by
  have e1 : (makeN ts acs).places.length = cntP ts := plsOf_len _ _
  have e2 : (makeN ts acs).trans.length = cntT acs := trsOf_len _ _ _
  have hm := cntP_bd ts
  have hc := cntT_bd acs
  have ht : ∀ t ∈ (makeN ts acs).trans, ∃ k, t = mkT (cntP ts) k (acs.getD k Ac.zero) ∧ (acs.getD k Ac.zero).ok := by
    intro t ht
    unfold makeN trsOf at ht
    simp only [List.mem_map] at ht
    obtain ⟨k, _, rfl⟩ := ht
    exact ⟨k, rfl, h.at_ k⟩
  refine ⟨by omega, by omega, fun t h0 => ?_, by omega, fun p hp => ?_, fun t h0 => ?_⟩
  · obtain ⟨k, rfl, ho⟩ := ht t h0
    have g1 := (innOf_fine hm.1 (acs.getD k Ac.zero)).len
    have g2 := (ntOf_fine hm.1 _ ho.2.2.2.2.1).len
    have g3 := (outOf_fine hm.1 _ ho.2.2.2.2.2.1).len
    exact ⟨by show (innOf _ _).length ≤ _; omega, by show (ntOf _ _).length ≤ _; omega, by show (outOf _ _).length ≤ _; omega⟩
  · unfold makeN plsOf at hp
    simp only [List.mem_map] at hp
    obtain ⟨k, _, rfl⟩ := hp
    refine ⟨by simp only [mkP]; omega, by simp only [mkP]; omega, by show (nameP k).data.size ≤ 1000; simp [nameP]⟩
  · obtain ⟨k, rfl, ho⟩ := ht t h0
    refine ⟨by show (nameT k).data.size ≤ 1000; simp [nameT], ?_⟩
    show ∃ a, (innOf (cntP ts) (acs.getD k Ac.zero))[0]? = some a ∧ _
    have hp := innOf_pos (cntP ts) (acs.getD k Ac.zero)
    rcases innOf_fine hm.1 (acs.getD k Ac.zero) with e | ⟨p, n, e, _, _, g3, g4⟩ | ⟨p, n, q, k, e, _, _, _, g3, g4, _⟩
    · rw [e] at hp; simp at hp
    · rw [e]; exact ⟨_, rfl, g3, g4⟩
    · rw [e]; exact ⟨_, rfl, g3, g4⟩

set_option maxRecDepth 100000 in
set_option maxHeartbeats 8000000 in
theorem equal_f {w : World} {aT aA bT bA : Option Addr} {nT cT nA cA mT dT mA dA : Nat} {ts us : List Nat} {acs bcs : List Ac} (ha : DraftAt w (.slice aT nT cT) (.slice aA nA cA) ts acs) (hb : DraftAt w (.slice bT mT dT) (.slice bA mA dA) us bcs)
    (e1 : nT = ts.length) (e2 : nA = acs.length) (e3 : mT = us.length) (e4 : mA = bcs.length) (h1 : nT ≤ 60) (h2 : nA ≤ 12) (h3 : mT ≤ 60) (h4 : mA ≤ 12) :
    Calls Try.prog 3 #[.agg #[.slice aT nT cT, .slice aA nA cA], .agg #[.slice bT mT dT, .slice bA mA dA], .bool false] w fun e w' => e = .returned (.bool true) ∧ Below w.heap.size w w' := by
  have HmA : Hid (∀ W : World, Below w.heap.size w W → Calls Try.prog 10 #[.agg #[.slice aT nT cT, .slice aA nA cA]] W fun e w' => ∃ vp vt, e = .returned (.agg #[vp, vt]) ∧ NetOwn W.heap.size w' vp vt (makeN ts acs) ∧ Below W.heap.size W w') := Lib.hid (fun W hW => by subst e1 e2; exact make_any (ha.below hW))
  have HmB : Hid (∀ W : World, Below w.heap.size w W → Calls Try.prog 10 #[.agg #[.slice bT mT dT, .slice bA mA dA]] W fun e w' => ∃ vp vt, e = .returned (.agg #[vp, vt]) ∧ NetOwn W.heap.size w' vp vt (makeN us bcs) ∧ Below W.heap.size W w') := Lib.hid (fun W hW => by subst e1 e2 e3 e4; exact make_any (hb.below hW))
  have Hfacts := Lib.hid (makeN_facts (ts := ts) ha.ok)
  obtain ⟨N, hN⟩ : ∃ N, N = makeN ts acs := ⟨_, rfl⟩
  obtain ⟨M, hM⟩ : ∃ M, M = makeN us bcs := ⟨_, rfl⟩
  rw [← hN] at HmA Hfacts
  rw [← hM] at HmB
  have qnTi : ¬ (60 : Int) < (nT : Int) := by omega
  have qnTb : decide ((60 : Int) < (nT : Int)) = false := decide_eq_false qnTi
  have qnTc : decide (60 < nT) = false := decide_eq_false (by omega)
  have qnAi : ¬ (12 : Int) < (nA : Int) := by omega
  have qnAb : decide ((12 : Int) < (nA : Int)) = false := decide_eq_false qnAi
  have qnAc : decide (12 < nA) = false := decide_eq_false (by omega)
  have qmTi : ¬ (60 : Int) < (mT : Int) := by omega
  have qmTb : decide ((60 : Int) < (mT : Int)) = false := decide_eq_false qmTi
  have qmTc : decide (60 < mT) = false := decide_eq_false (by omega)
  have qmAi : ¬ (12 : Int) < (mA : Int) := by omega
  have qmAb : decide ((12 : Int) < (mA : Int)) = false := decide_eq_false qmAi
  have qmAc : decide (12 < mA) = false := decide_eq_false (by omega)
  have h1s : (w.alloc (.cells #[.slice aT nT cT, .slice aA nA cA] 25)).heap.size = w.heap.size + 1 := by simp
  have hA0 := ((AllOwn.nil w.heap.size w).add ((Below.refl _ w).alloc (Nat.le_refl _) _) (boxRow.new w.heap.size w 25 #[.slice aT nT cT, .slice aA nA cA] (Nat.le_refl _)) (fun k e => by injection e with e; subst e; exact Nat.le_refl _)).add ((Below.refl _ _).alloc (Nat.le_refl _) _) (boxRow.new w.heap.size _ 25 #[.slice bT mT dT, .slice bA mA dA] (by simp <;> omega)) (fun k e => by injection e with e; subst e; exact Nat.le_refl _)
  rw [h1s] at hA0
  have HA0 := Lib.hid hA0
  have HB0 : Hid (Below w.heap.size w ((w.alloc (.cells #[.slice aT nT cT, .slice aA nA cA] 25)).alloc (.cells #[.slice bT mT dT, .slice bA mA dA] 25))) := Lib.hid (((Below.refl _ w).alloc (Nat.le_refl _) _).alloc (by simp) _)
  clear ha hb e1 e2 e3 e4 h1 h2 h3 h4 hN hM hA0 h1s
  go_enter Try.func3, Try.ntmps3
  go_wp2_with fail
  refine (awake_any _).mono ?_
  rintro e w1 ⟨rfl, hb⟩
  have HA1 : Hid (AllOwn w.heap.size w1 [boxRow w.heap.size 25 [.slice aT nT cT, .slice aA nA cA], boxRow (w.heap.size + 1) 25 [.slice bT mT dT, .slice bA mA dA]]) := Lib.hid (HA0.out.below hb)
  have HB1 := Lib.hid (HB0.out.trans (hb.mono HB0.out.size))
  have a0 := boxRow.cell (HA1.out.own (boxRow w.heap.size 25 [.slice aT nT cT, .slice aA nA cA]) (by simp)) (j := 0) rfl
  have a1 := boxRow.cell (HA1.out.own (boxRow w.heap.size 25 [.slice aT nT cT, .slice aA nA cA]) (by simp)) (j := 1) rfl
  have b0 := boxRow.cell (HA1.out.own (boxRow (w.heap.size + 1) 25 [.slice bT mT dT, .slice bA mA dA]) (by simp)) (j := 0) rfl
  have b1 := boxRow.cell (HA1.out.own (boxRow (w.heap.size + 1) 25 [.slice bT mT dT, .slice bA mA dA]) (by simp)) (j := 1) rfl
  have alt := (boxRow.lt (HA1.out.own (boxRow w.heap.size 25 [.slice aT nT cT, .slice aA nA cA]) (by simp))).2
  have blt := (boxRow.lt (HA1.out.own (boxRow (w.heap.size + 1) 25 [.slice bT mT dT, .slice bA mA dA]) (by simp))).2
  clear hb HA0 HB0
  go_upto_region 5 with (fail)
  clear a0 a1 b0 b1 alt blt
  obtain ⟨wz, hwz⟩ : ∃ x, x = w1 := ⟨_, rfl⟩
  rw [← hwz] at HA1 HB1 ⊢
  clear hwz
  have HAz := HA1
  have HBz := HB1
  clear HA1 HB1
  have a0 := boxRow.cell (HAz.out.own (boxRow w.heap.size 25 [.slice aT nT cT, .slice aA nA cA]) (by simp)) (j := 0) rfl
  have a1 := boxRow.cell (HAz.out.own (boxRow w.heap.size 25 [.slice aT nT cT, .slice aA nA cA]) (by simp)) (j := 1) rfl
  have b0 := boxRow.cell (HAz.out.own (boxRow (w.heap.size + 1) 25 [.slice bT mT dT, .slice bA mA dA]) (by simp)) (j := 0) rfl
  have b1 := boxRow.cell (HAz.out.own (boxRow (w.heap.size + 1) 25 [.slice bT mT dT, .slice bA mA dA]) (by simp)) (j := 1) rfl
  have alt := (boxRow.lt (HAz.out.own (boxRow w.heap.size 25 [.slice aT nT cT, .slice aA nA cA]) (by simp))).2
  have blt := (boxRow.lt (HAz.out.own (boxRow (w.heap.size + 1) 25 [.slice bT mT dT, .slice bA mA dA]) (by simp))).2
  clear HAz
  go_wp2_with fail
  refine (HmA.out _ HBz.out).mono ?_
  rintro e w2 ⟨vp, vt, rfl, hno, hb2⟩
  have hna := hno.at_
  obtain ⟨a3, np, c3, a4, nt, c4, rfl, rfl, hnp, hnt⟩ := hna.form2
  have bb0 := bcell b0 blt hb2
  have bb1 := bcell b1 blt hb2
  have blt2 := Nat.lt_of_lt_of_le blt hb2.size
  have aa0 := bcell a0 alt hb2
  have aa1 := bcell a1 alt hb2
  have alt2 := Nat.lt_of_lt_of_le alt hb2.size
  have HB2 := Lib.hid (HBz.out.trans (hb2.mono HBz.out.size))
  have Hna2 := Lib.hid hna
  have Hnp := Lib.hid hnp
  have Hnt := Lib.hid hnt
  have hnew2 : Below w2.heap.size w2 (w2.alloc (.cells #[.slice a3 np c3, .slice a4 nt c4] 30)) := (Below.refl _ _).alloc (Nat.le_refl _) _
  have Hnew2 := Lib.hid hnew2
  have hbx := boxRow.new 0 w2 30 #[.slice a3 np c3, .slice a4 nt c4] (Nat.zero_le _)
  have Hbx := Lib.hid hbx
  have HB2n := Lib.hid (HB2.out.trans (hnew2.mono HB2.out.size))
  clear a0 a1 b0 b1 alt blt hno hb2 hna hnp hnt hbx hnew2 HBz
  go_wp2_with fail
  refine (HmB.out _ HB2n.out).mono ?_
  rintro e w3 ⟨vp, vt, rfl, hno, hb3⟩
  have hma := hno.at_
  obtain ⟨a5, mp, c5, a6, mt, c6, rfl, rfl, hmp, hmt⟩ := hma.form2
  have Hma3 := Lib.hid hma
  have Hmp := Lib.hid hmp
  have Hmt := Lib.hid hmt
  have hbx3 := row_to (C := 0) Hbx.out hb3 (Nat.le_refl _)
  have x0 := boxRow.cell hbx3 (j := 0) rfl
  have x1 := boxRow.cell hbx3 (j := 1) rfl
  have xlt := (boxRow.lt hbx3).2
  have HB3 := Lib.hid (HB2n.out.trans (hb3.mono HB2n.out.size))
  have hna3 := (Hna2.out.below Hnew2.out).below hb3
  have Hna3 := Lib.hid hna3
  have a30 := bcell (bcell aa0 alt2 Hnew2.out) (Nat.lt_of_lt_of_le alt2 Hnew2.out.size) hb3
  have a31 := bcell (bcell aa1 alt2 Hnew2.out) (Nat.lt_of_lt_of_le alt2 Hnew2.out.size) hb3
  have alt3 := Nat.lt_of_lt_of_le (Nat.lt_of_lt_of_le alt2 Hnew2.out.size) hb3.size
  have hnew3 : Below w3.heap.size w3 (w3.alloc (.cells #[.slice a5 mp c5, .slice a6 mt c6] 30)) := (Below.refl _ _).alloc (Nat.le_refl _) _
  have Hnew3 := Lib.hid hnew3
  have hby := boxRow.new 0 w3 30 #[.slice a5 mp c5, .slice a6 mt c6] (Nat.zero_le _)
  have Hby := Lib.hid hby
  have hcopy := copy_any Hnp.out Hnt.out (by rw [Hnp.out]; exact Hfacts.out.1) (by rw [Hnt.out]; exact Hfacts.out.2.1) Hfacts.out.2.2.1 (hna3.below hnew3)
  have hy0 := boxRow.cell hby (j := 0) rfl
  have hy1 := boxRow.cell hby (j := 1) rfl
  have hylt := (boxRow.lt hby).2
  have hx0 := bcell x0 xlt hnew3
  have hx1 := bcell x1 xlt hnew3
  have hxlt := Nat.lt_of_lt_of_le xlt hnew3.size
  have ha0 := bcell a30 alt3 hnew3
  have ha1 := bcell a31 alt3 hnew3
  have halt := Nat.lt_of_lt_of_le alt3 hnew3.size
  have hnax := hna3.below hnew3
  have hnay := hma.below hnew3
  have hBw := HB3.out.trans (hnew3.mono HB3.out.size)
  have HALL := Lib.hid (And.intro hcopy (And.intro hy0 (And.intro hy1 (And.intro hylt (And.intro hx0 (And.intro hx1 (And.intro hxlt (And.intro ha0 (And.intro ha1 (And.intro halt (And.intro hnax (And.intro hnay hBw))))))))))))
  clear hcopy hy0 hy1 hylt hx0 hx1 hxlt ha0 ha1 halt hnax hnay hBw
  clear hno hb3 hma hmp hmt hbx3 hna3 hnew3 hby bb0 bb1 blt2 aa0 aa1 alt2 HB2 Hna2 Hnew2 Hbx HB2n HmB Hna3 Hma3 HB3 Hby Hnew3
  go_wp2_with fail
  clear x0 x1 xlt a30 a31 alt3
  obtain ⟨xb, hxb⟩ : ∃ b, b = w2.heap.size := ⟨_, rfl⟩
  obtain ⟨yb, hyb⟩ : ∃ b, b = w3.heap.size := ⟨_, rfl⟩
  rw [← hxb, ← hyb] at HALL ⊢
  revert HALL
  generalize w3.alloc (.cells #[.slice a5 mp c5, .slice a6 mt c6] 30) = W3
  intro HALL
  clear hxb hyb
  have hcopy := HALL.out.1
  refine hcopy.mono ?_
  rintro e w4 ⟨vp, vt, rfl, hno, hb4⟩
  obtain ⟨-, hy0, hy1, hylt, hx0, hx1, hxlt, ha0, ha1, halt, hnax, hnay, hBw⟩ := HALL.out
  obtain ⟨lc, hlc, hac⟩ := hno
  have hlcl : nt = lc.length := by rw [Hnt.out, ← hlc, List.length_map]
  obtain ⟨a7, c7, ev⟩ := own_form (hac.own (plRow vp N.places) (by simp [netRows]))
  replace ev : vp = .slice a7 N.places.length c7 := ev
  rw [← Hnp.out] at ev
  subst ev
  obtain ⟨a8, c8, ev⟩ := own_form (hac.own (trRow vt lc) (by simp [netRows]))
  replace ev : vt = .slice a8 lc.length c8 := ev
  rw [← hlcl] at ev
  subst ev
  have hnew4 : Below w4.heap.size w4 (w4.alloc (.cells #[.slice a7 np c7, .slice a8 nt c8] 30)) := (Below.refl _ _).alloc (Nat.le_refl _) _
  have hb34 : Below W3.heap.size W3 (w4.alloc (.cells #[.slice a7 np c7, .slice a8 nt c8] 30)) := hb4.trans (hnew4.mono hb4.size)
  have hin : InNear W3 (w4.alloc (.cells #[.slice a7 np c7, .slice a8 nt c8] 30)) W3.heap.size w4.heap.size a7 np c7 a8 nt c8 N.places lc := by
    refine ⟨?_, Hnp.out, hlcl, fun p hp => (Hfacts.out.2.2.2.2.1 p hp).2.2, fun x hx => ?_, hb34, Nat.le_refl _, hb34.size⟩
    · have h3 := hac.add hnew4 (boxRow.new W3.heap.size w4 30 #[.slice a7 np c7, .slice a8 nt c8] hb4.size) (fun k e => by injection e with e; subst e; exact Nat.le_refl _)
      exact h3.perm (List.perm_append_singleton _ _)
    · have hx2 : x.1 ∈ N.trans := by rw [← hlc]; exact List.mem_map_of_mem (f := (·.1)) hx
      exact (Hfacts.out.2.2.2.2.2 _ hx2).1
  have Hin := Lib.hid hin
  have Hlc := Lib.hid hlc
  have hcb := hin.all.own (boxRow w4.heap.size 30 [.slice a7 np c7, .slice a8 nt c8]) (by simp)
  have z0 := boxRow.cell hcb (j := 0) rfl
  have z1 := boxRow.cell hcb (j := 1) rfl
  have zlt := (boxRow.lt hcb).2
  have y0 := bcell hy0 hylt hb34
  have y1 := bcell hy1 hylt hb34
  have ylt := Nat.lt_of_lt_of_le hylt hb34.size
  have x0 := bcell hx0 hxlt hb34
  have x1 := bcell hx1 hxlt hb34
  have xlt := Nat.lt_of_lt_of_le hxlt hb34.size
  have hnx5 := hnax.below hb34
  have hny5 := hnay.below hb34
  have hnc5 : NetAt (w4.alloc (.cells #[.slice a7 np c7, .slice a8 nt c8] 30)) (.slice a7 np c7) (.slice a8 nt c8) N := NetOwn.at_ ⟨lc, hlc, hin.all.sub (List.sublist_cons_self _ _)⟩
  obtain ⟨cb, hcbb⟩ : ∃ b, b = w4.heap.size := ⟨_, rfl⟩
  have HALL5 := Lib.hid (And.intro hnx5 (And.intro hny5 (And.intro hnc5 (And.intro z0 (And.intro z1 (And.intro zlt (And.intro y0 (And.intro y1 (And.intro ylt (And.intro x0 (And.intro x1 (And.intro xlt hin))))))))))))
  clear hcopy hy0 hy1 hylt hx0 hx1 hxlt ha0 ha1 halt hnax hnay hBw hb4 hac hlc hnew4 hb34 hin hcb z0 z1 zlt y0 y1 ylt x0 x1 xlt hnx5 hny5 hnc5 hlcl Hin
  go_upto_region 8 with (fail)
  rw [← hcbb] at HALL5 ⊢
  revert HALL5
  generalize w4.alloc (.cells #[.slice a7 np c7, .slice a8 nt c8] 30) = W5
  intro HALL5
  clear hcbb
  obtain ⟨hnx5, hny5, hnc5, z0, z1, zlt, y0, y1, ylt, x0, x1, xlt, -⟩ := HALL5.out
  obtain ⟨q, hq⟩ : ∃ q, q = sameN N M := ⟨_, rfl⟩
  have HqE1 : Hid (∀ p : NewBy W5, Calls Try.prog 12 #[.agg #[.slice a3 np c3, .slice a4 nt c4], .agg #[.slice a5 mp c5, .slice a6 mt c6]] p.to fun e w' => e = .returned (.bool q) ∧ Below p.to.heap.size p.to w') :=
    Lib.hid (fun p => by rw [hq]; exact equal_any Hnp.out Hnt.out Hmp.out Hmt.out (hnx5.below p.below) (hny5.below p.below))
  have HqS1 : Hid (∀ p : NewBy W5, Calls Try.prog 13 #[.agg #[.slice a3 np c3, .slice a4 nt c4], .agg #[.slice a5 mp c5, .slice a6 mt c6]] p.to fun e w' => e = .returned (.bool q) ∧ Below p.to.heap.size p.to w') :=
    Lib.hid (fun p => by rw [hq]; exact same_any Hnp.out Hnt.out Hmp.out Hmt.out (hnx5.below p.below) (hny5.below p.below))
  have HqE2 : Hid (∀ p : NewBy W5, Calls Try.prog 12 #[.agg #[.slice a3 np c3, .slice a4 nt c4], .agg #[.slice a7 np c7, .slice a8 nt c8]] p.to fun e w' => e = .returned (.bool true) ∧ Below p.to.heap.size p.to w') :=
    Lib.hid (fun p => by have h := equal_any Hnp.out Hnt.out Hnp.out Hnt.out (hnx5.below p.below) (hnc5.below p.below); rw [sameN_refl] at h; exact h)
  have HqS2 : Hid (∀ p : NewBy W5, Calls Try.prog 13 #[.agg #[.slice a3 np c3, .slice a4 nt c4], .agg #[.slice a7 np c7, .slice a8 nt c8]] p.to fun e w' => e = .returned (.bool true) ∧ Below p.to.heap.size p.to w') :=
    Lib.hid (fun p => by have h := same_any Hnp.out Hnt.out Hnp.out Hnt.out (hnx5.below p.below) (hnc5.below p.below); rw [sameN_refl] at h; exact h)
  have fz0 := fun p : NewBy W5 => NewBy.cell zlt z0 p
  have fz1 := fun p : NewBy W5 => NewBy.cell zlt z1 p
  have fy0 := fun p : NewBy W5 => NewBy.cell ylt y0 p
  have fy1 := fun p : NewBy W5 => NewBy.cell ylt y1 p
  have fx0 := fun p : NewBy W5 => NewBy.cell xlt x0 p
  have fx1 := fun p : NewBy W5 => NewBy.cell xlt x1 p
  clear hnx5 hny5 hnc5 hq z0 z1 y0 y1 x0 x1
  refine wp_region_new (by kernel_rfl) (by kernel_rfl) ?_
  iterate 8 (go_big_quiet_step (first | (go_at_call 12; exact Calls.new_of (HqE1.out _)) | (go_at_call 13; exact Calls.new_of (HqS1.out _))))
  repeat (go_big_quiet_step (first | (go_at_call 12; exact Calls.new_of (HqE2.out _)) | (go_at_call 13; exact Calls.new_of (HqS2.out _))))
  refine wpQuiet_nil ?_
  intro wz hzz
  obtain ⟨pz, hzz⟩ := hzz
  subst hzz
  have hin6 := HALL5.out.2.2.2.2.2.2.2.2.2.2.2.2.go pz.below
  clear fz0 fz1 fy0 fy1 fx0 fx1 HqE1 HqE2 HqS1 HqS2 zlt ylt xlt HALL5
  have hcb := hin6.all.own (boxRow cb 30 [.slice a7 np c7, .slice a8 nt c8]) (by simp)
  have z0 := boxRow.cell hcb (j := 0) rfl
  have z1 := boxRow.cell hcb (j := 1) rfl
  have zlt := (boxRow.lt hcb).2
  have hnp1 : 0 < np := by rw [Hnp.out]; exact Hfacts.out.2.2.2.1
  obtain ⟨r, p, rfl, hrB, hrlt, hp, p0, p1, pfz⟩ := hin6.place (i := 0) hnp1
  rw [Nat.zero_mul, Nat.zero_add] at p1
  have pf1 := pfz 1
  obtain ⟨ht0, ht5, hns⟩ := Hfacts.out.2.2.2.2.1 p (List.mem_of_getElem? hp)
  have hset := hin6.setPl (i := 0) (j := 1) (p' := ⟨p.name, p.tok + 1⟩) (y := .int .i64 (p.tok + 1)) hp (by omega) rfl hns
  rw [Nat.zero_mul, Nat.zero_add] at hset
  obtain ⟨N', hN'⟩ : ∃ ps, ps = N.places.set 0 ⟨p.name, p.tok + 1⟩ := ⟨_, rfl⟩
  rw [← hN'] at hset
  have Hdiff : Hid (∀ l, sameN N ⟨N', l⟩ = false) := Lib.hid (fun l => by
    cases e : sameN N ⟨N', l⟩ with
    | false => rfl
    | true =>
      have e2 := congrArg (fun n : Nt => (n.places[0]?).map (·.tok)) (sameN_eq e)
      simp only [hN', hp] at e2
      rw [List.getElem?_set_self (lt_at hp)] at e2
      have e3 : p.tok = p.tok + 1 := by simpa using e2
      omega)
  have Hnp2 : Hid (np = N'.length) := Lib.hid (by rw [hN', List.length_set]; exact Hnp.out)
  have Hset := Lib.hid hset
  have hcb2 := hset.all.own (boxRow cb 30 [.slice (some ⟨r, 0, none⟩) np c7, .slice a8 nt c8]) (by simp)
  have y0 := boxRow.cell hcb2 (j := 0) rfl
  have y1 := boxRow.cell hcb2 (j := 1) rfl
  have ylt := (boxRow.lt hcb2).2
  have hmaxnt : nt ≤ 1000000 := by rw [Hnt.out]; exact Hfacts.out.2.1
  have hnpi : (0 : Int) < (np : Int) := by omega
  clear hcb hcb2 hset hin6 pfz hrB hp hN' hns
  go_upto_if 75 with (fail)
  clear z0 z1 zlt p0 p1 pf1 hrlt
  revert Hset y0 y1 ylt
  generalize pz.to.setCell ⟨r, 1, none⟩ (.int .i64 (p.tok + 1)) = W6
  intro Hset y0 y1 ylt
  obtain ⟨bq, hbq⟩ : ∃ b, b = decide (0 < nt) := ⟨_, rfl⟩
  rw [← hbq]
  have Hbq := Lib.hid hbq
  clear hbq
  go_cut [] from 75 to 86 (fun wc => ∃ l' : List (Tr × Value × Value × Value), InNear W3 wc W3.heap.size cb (some ⟨r, 0, none⟩) np c7 a8 nt c8 N' l')
  case first =>
    cases bq with
    | false =>
      go_wp2
      go_meet
      case rel => exact ⟨_, Hset.out⟩
    | true =>
      have hntp : 0 < nt := by have := of_decide_eq_true Hbq.out.symm; omega
      have hnti : (0 : Int) < (nt : Int) := by omega
      obtain ⟨rt, t, v1, v2, v3, rfl, hrt, hrtlt, hl0, _, _, _, t3, _, _, tfz, hv1, _, _⟩ := Hset.out.trans (i := 0) hntp
      rw [Nat.zero_mul, Nat.zero_add] at t3
      have htN : t ∈ N.trans := by
        rw [← Hlc.out]
        exact List.mem_map_of_mem (f := (·.1)) (List.mem_of_getElem? hl0)
      obtain ⟨-, ⟨ax, ay⟩, hax, hay1, hay2⟩ := Hfacts.out.2.2.2.2.2 t htN
      simp only at hay1 hay2
      have hlen : 0 < t.inn.length := lt_at hax
      rcases hv1.2 with ⟨_, h0⟩ | ⟨rb, cap, cur, ev, _⟩
      · omega
      · subst ev
        have hrow : RowAt 2 W6 (.slice (some ⟨rb, 0, none⟩) t.inn.length cap) t.inn.length (t.inn.flatMap arcL) := RowAt.of_own hv1
        obtain ⟨b', off', e', hbl, hc⟩ := RowAt.elem arcL_len hrow hax
        injection e' with e'
        injection e' with e4 e5 _
        subst e4 e5
        have k1 := hc 1 _ rfl
        rw [Nat.zero_mul, Nat.zero_add] at k1
        replace k1 : W6.cell? ⟨rb, 1, none⟩ = some (.int .i64 ay) := k1
        have kf : W6.frozen? ⟨rb, 1, none⟩ = false := World.ownsRow.frozenAt hv1 1
        have hs2 := Hset.out.setIn (q := 0) (j := 1) (a := (ax, ay)) (a' := (ax, ay + 1)) (y := .int .i64 (ay + 1)) hl0 hax (by omega) rfl
        rw [Nat.zero_mul, Nat.zero_add] at hs2
        have Hs2 := Lib.hid hs2
        obtain ⟨ni, hni⟩ : ∃ n, n = t.inn.length := ⟨_, rfl⟩
        rw [← hni] at t3 hlen
        have hnii : (0 : Int) < (ni : Int) := by omega
        clear hs2 hrow hc hv1 hax htN hl0 tfz hni
        go_wp2
        go_meet
        case rel => exact ⟨_, Hs2.out⟩
  case rest =>
    obtain ⟨l', hinz⟩ := hcut
    rename World => Wz
    obtain ⟨-, -, -, -, hx0, hx1, hxlt, ha0, ha1, halt, hnax, -, hBw⟩ := HALL.out
    have hb := hinz.below
    have x0 := bcell hx0 hxlt hb
    have x1 := bcell hx1 hxlt hb
    have xlt := Nat.lt_of_lt_of_le hxlt hb.size
    have a0 := bcell ha0 halt hb
    have a1 := bcell ha1 halt hb
    have alt := Nat.lt_of_lt_of_le halt hb.size
    have hcb := hinz.all.own (boxRow cb 30 [.slice (some ⟨r, 0, none⟩) np c7, .slice a8 nt c8]) (by simp)
    have z0 := boxRow.cell hcb (j := 0) rfl
    have z1 := boxRow.cell hcb (j := 1) rfl
    have zlt := (boxRow.lt hcb).2
    have hdr : Below Wz.heap.size Wz Wz.drew := (Below.refl _ _).drew
    have Hnx7 := Lib.hid ((hnax.below hb).below hdr)
    have Hnc7 : Hid (NetAt Wz.drew (.slice (some ⟨r, 0, none⟩) np c7) (.slice a8 nt c8) ⟨N', l'.map (·.1)⟩) := Lib.hid (NetAt.below (NetOwn.at_ ⟨l', rfl, hinz.all.sub (List.sublist_cons_self _ _)⟩) hdr)
    have Hnl : Hid (nt = (l'.map (·.1)).length) := Lib.hid (by rw [List.length_map]; exact hinz.hl)
    have HBz : Hid (Below w.heap.size w Wz.drew) := Lib.hid ((hBw.trans (hb.mono hBw.size)).trans (hdr.mono (Nat.le_trans hBw.size hb.size)))
    have Hm7 := Lib.hid (HmA.out Wz.drew HBz.out)
    clear hx0 hx1 hxlt ha0 ha1 halt hnax hBw hb hcb hdr hinz HALL Hset HmA y0 y1 ylt
    go_wp2_with fail
    go_region_law (first | (go_simp; go_at_call 10; refine Hm7.out.mono ?_; rintro e w7 ⟨vp, vt, rfl, hno, hb7⟩; obtain ⟨a9, n9, c9, a10, n10, c10, rfl, rfl, hn9, hn10⟩ := hno.at_.form2; have Hsm := same_any Hnp.out Hnt.out hn9 hn10 (Hnx7.out.below hb7) hno.at_; rw [sameN_refl] at Hsm; have HB7 := Lib.hid (HBz.out.trans (hb7.mono HBz.out.size)); have Hnx8 := Lib.hid (Hnx7.out.below hb7); have Hnc8 := Lib.hid (Hnc7.out.below hb7); have k0 := bcell (w := Wz.drew) x0 xlt hb7; have k1 := bcell (w := Wz.drew) x1 xlt hb7; have klt := Nat.lt_of_lt_of_le xlt hb7.size; have m0 := bcell (w := Wz.drew) z0 zlt hb7; have m1 := bcell (w := Wz.drew) z1 zlt hb7; have mlt := Nat.lt_of_lt_of_le zlt hb7.size; clear hno hb7 hn9 hn10) | (go_simp; go_at_call 13; refine Hsm.mono ?_; rintro e w8 ⟨rfl, hb8⟩; have Heq := equal_any Hnp.out Hnt.out Hnp2.out Hnl.out (Hnx8.out.below hb8) (Hnc8.out.below hb8); rw [Hdiff.out] at Heq; have HB8 := Lib.hid (HB7.out.trans (hb8.mono HB7.out.size)); have j0 := bcell k0 klt hb8; have j1 := bcell k1 klt hb8; have i0 := bcell m0 mlt hb8; have i1 := bcell m1 mlt hb8; clear hb8) | (go_simp; go_at_call 12; refine Heq.mono ?_; rintro e w9 ⟨rfl, hb9⟩; have HB9 := Lib.hid (HB8.out.trans (hb9.mono HB8.out.size)); clear hb9))
    all_goals
      go_wp2
      go_ret
      exact ⟨rfl, HB9.out⟩

set_option maxRecDepth 100000 in
set_option maxHeartbeats 8000000 in
theorem equal_t {w : World} {aT aA bT bA : Option Addr} {nT cT nA cA mT dT mA dA : Nat} {ts us : List Nat} {acs bcs : List Ac} (ha : DraftAt w (.slice aT nT cT) (.slice aA nA cA) ts acs) (hb : DraftAt w (.slice bT mT dT) (.slice bA mA dA) us bcs)
    (e1 : nT = ts.length) (e2 : nA = acs.length) (e3 : mT = us.length) (e4 : mA = bcs.length) (h1 : nT ≤ 60) (h2 : nA ≤ 12) (h3 : mT ≤ 60) (h4 : mA ≤ 12) :
    Calls Try.prog 3 #[.agg #[.slice aT nT cT, .slice aA nA cA], .agg #[.slice bT mT dT, .slice bA mA dA], .bool true] w fun e w' => e = .returned (.bool true) ∧ Below w.heap.size w w' := by
  have HmA : Hid (∀ W : World, Below w.heap.size w W → Calls Try.prog 10 #[.agg #[.slice aT nT cT, .slice aA nA cA]] W fun e w' => ∃ vp vt, e = .returned (.agg #[vp, vt]) ∧ NetOwn W.heap.size w' vp vt (makeN ts acs) ∧ Below W.heap.size W w') := Lib.hid (fun W hW => by subst e1 e2; exact make_any (ha.below hW))
  have HmB : Hid (∀ W : World, Below w.heap.size w W → Calls Try.prog 10 #[.agg #[.slice aT nT cT, .slice aA nA cA]] W fun e w' => ∃ vp vt, e = .returned (.agg #[vp, vt]) ∧ NetOwn W.heap.size w' vp vt (makeN ts acs) ∧ Below W.heap.size W w') := Lib.hid (fun W hW => by subst e1 e2 e3 e4; exact make_any (ha.below hW))
  have Hfacts := Lib.hid (makeN_facts (ts := ts) ha.ok)
  obtain ⟨N, hN⟩ : ∃ N, N = makeN ts acs := ⟨_, rfl⟩
  obtain ⟨M, hM⟩ : ∃ M, M = makeN ts acs := ⟨_, rfl⟩
  rw [← hN] at HmA Hfacts
  rw [← hM] at HmB
  have qnTi : ¬ (60 : Int) < (nT : Int) := by omega
  have qnTb : decide ((60 : Int) < (nT : Int)) = false := decide_eq_false qnTi
  have qnTc : decide (60 < nT) = false := decide_eq_false (by omega)
  have qnAi : ¬ (12 : Int) < (nA : Int) := by omega
  have qnAb : decide ((12 : Int) < (nA : Int)) = false := decide_eq_false qnAi
  have qnAc : decide (12 < nA) = false := decide_eq_false (by omega)
  have qmTi : ¬ (60 : Int) < (mT : Int) := by omega
  have qmTb : decide ((60 : Int) < (mT : Int)) = false := decide_eq_false qmTi
  have qmTc : decide (60 < mT) = false := decide_eq_false (by omega)
  have qmAi : ¬ (12 : Int) < (mA : Int) := by omega
  have qmAb : decide ((12 : Int) < (mA : Int)) = false := decide_eq_false qmAi
  have qmAc : decide (12 < mA) = false := decide_eq_false (by omega)
  have h1s : (w.alloc (.cells #[.slice aT nT cT, .slice aA nA cA] 25)).heap.size = w.heap.size + 1 := by simp
  have hA0 := ((AllOwn.nil w.heap.size w).add ((Below.refl _ w).alloc (Nat.le_refl _) _) (boxRow.new w.heap.size w 25 #[.slice aT nT cT, .slice aA nA cA] (Nat.le_refl _)) (fun k e => by injection e with e; subst e; exact Nat.le_refl _)).add ((Below.refl _ _).alloc (Nat.le_refl _) _) (boxRow.new w.heap.size _ 25 #[.slice bT mT dT, .slice bA mA dA] (by simp <;> omega)) (fun k e => by injection e with e; subst e; exact Nat.le_refl _)
  rw [h1s] at hA0
  have HA0 := Lib.hid hA0
  have HB0 : Hid (Below w.heap.size w ((w.alloc (.cells #[.slice aT nT cT, .slice aA nA cA] 25)).alloc (.cells #[.slice bT mT dT, .slice bA mA dA] 25))) := Lib.hid (((Below.refl _ w).alloc (Nat.le_refl _) _).alloc (by simp) _)
  clear ha hb e1 e2 e3 e4 h1 h2 h3 h4 hN hM hA0 h1s
  go_enter Try.func3, Try.ntmps3
  go_wp2_with fail
  refine (awake_any _).mono ?_
  rintro e w1 ⟨rfl, hb⟩
  have HA1 : Hid (AllOwn w.heap.size w1 [boxRow w.heap.size 25 [.slice aT nT cT, .slice aA nA cA], boxRow (w.heap.size + 1) 25 [.slice bT mT dT, .slice bA mA dA]]) := Lib.hid (HA0.out.below hb)
  have HB1 := Lib.hid (HB0.out.trans (hb.mono HB0.out.size))
  have a0 := boxRow.cell (HA1.out.own (boxRow w.heap.size 25 [.slice aT nT cT, .slice aA nA cA]) (by simp)) (j := 0) rfl
  have a1 := boxRow.cell (HA1.out.own (boxRow w.heap.size 25 [.slice aT nT cT, .slice aA nA cA]) (by simp)) (j := 1) rfl
  have b0 := boxRow.cell (HA1.out.own (boxRow (w.heap.size + 1) 25 [.slice bT mT dT, .slice bA mA dA]) (by simp)) (j := 0) rfl
  have b1 := boxRow.cell (HA1.out.own (boxRow (w.heap.size + 1) 25 [.slice bT mT dT, .slice bA mA dA]) (by simp)) (j := 1) rfl
  have alt := (boxRow.lt (HA1.out.own (boxRow w.heap.size 25 [.slice aT nT cT, .slice aA nA cA]) (by simp))).2
  have blt := (boxRow.lt (HA1.out.own (boxRow (w.heap.size + 1) 25 [.slice bT mT dT, .slice bA mA dA]) (by simp))).2
  clear hb HA0 HB0
  have hS1 := AllOwn.store (pre := [boxRow w.heap.size 25 [.slice aT nT cT, .slice aA nA cA]]) (b := w.heap.size + 1) (t := 25) (cs := [.slice bT mT dT, .slice bA mA dA]) (post := []) HA1.out 0 (.slice aT nT cT)
  have hS2 := AllOwn.store (pre := [boxRow w.heap.size 25 [.slice aT nT cT, .slice aA nA cA]]) (b := w.heap.size + 1) (t := 25) (post := []) hS1.1 1 (.slice aA nA cA)
  have f0 := boxRow.froz (HA1.out.own (boxRow (w.heap.size + 1) 25 [.slice bT mT dT, .slice bA mA dA]) (by simp)) 0
  have f1 := boxRow.froz (HA1.out.own (boxRow (w.heap.size + 1) 25 [.slice bT mT dT, .slice bA mA dA]) (by simp)) 1
  have HAz : Hid (AllOwn w.heap.size ((w1.setCell ⟨w.heap.size + 1, 0, none⟩ (.slice aT nT cT)).setCell ⟨w.heap.size + 1, 1, none⟩ (.slice aA nA cA)) [boxRow w.heap.size 25 [.slice aT nT cT, .slice aA nA cA], boxRow (w.heap.size + 1) 25 [.slice aT nT cT, .slice aA nA cA]]) := Lib.hid hS2.1
  have HBz : Hid (Below w.heap.size w ((w1.setCell ⟨w.heap.size + 1, 0, none⟩ (.slice aT nT cT)).setCell ⟨w.heap.size + 1, 1, none⟩ (.slice aA nA cA))) := Lib.hid (HB1.out.trans ((hS1.2.trans hS2.2).below (fun k e => by omega) HB1.out.size))
  clear hS1 hS2
  go_upto_region 5 with (fail)
  clear a0 a1 b0 b1 alt blt f0 f1 HA1 HB1
  revert HAz HBz
  generalize (w1.setCell ⟨w.heap.size + 1, 0, none⟩ (.slice aT nT cT)).setCell ⟨w.heap.size + 1, 1, none⟩ (.slice aA nA cA) = wz
  intro HAz HBz
  have a0 := boxRow.cell (HAz.out.own (boxRow w.heap.size 25 [.slice aT nT cT, .slice aA nA cA]) (by simp)) (j := 0) rfl
  have a1 := boxRow.cell (HAz.out.own (boxRow w.heap.size 25 [.slice aT nT cT, .slice aA nA cA]) (by simp)) (j := 1) rfl
  have b0 := boxRow.cell (HAz.out.own (boxRow (w.heap.size + 1) 25 [.slice aT nT cT, .slice aA nA cA]) (by simp)) (j := 0) rfl
  have b1 := boxRow.cell (HAz.out.own (boxRow (w.heap.size + 1) 25 [.slice aT nT cT, .slice aA nA cA]) (by simp)) (j := 1) rfl
  have alt := (boxRow.lt (HAz.out.own (boxRow w.heap.size 25 [.slice aT nT cT, .slice aA nA cA]) (by simp))).2
  have blt := (boxRow.lt (HAz.out.own (boxRow (w.heap.size + 1) 25 [.slice aT nT cT, .slice aA nA cA]) (by simp))).2
  clear HAz
  go_wp2_with fail
  refine (HmA.out _ HBz.out).mono ?_
  rintro e w2 ⟨vp, vt, rfl, hno, hb2⟩
  have hna := hno.at_
  obtain ⟨a3, np, c3, a4, nt, c4, rfl, rfl, hnp, hnt⟩ := hna.form2
  have bb0 := bcell b0 blt hb2
  have bb1 := bcell b1 blt hb2
  have blt2 := Nat.lt_of_lt_of_le blt hb2.size
  have aa0 := bcell a0 alt hb2
  have aa1 := bcell a1 alt hb2
  have alt2 := Nat.lt_of_lt_of_le alt hb2.size
  have HB2 := Lib.hid (HBz.out.trans (hb2.mono HBz.out.size))
  have Hna2 := Lib.hid hna
  have Hnp := Lib.hid hnp
  have Hnt := Lib.hid hnt
  have hnew2 : Below w2.heap.size w2 (w2.alloc (.cells #[.slice a3 np c3, .slice a4 nt c4] 30)) := (Below.refl _ _).alloc (Nat.le_refl _) _
  have Hnew2 := Lib.hid hnew2
  have hbx := boxRow.new 0 w2 30 #[.slice a3 np c3, .slice a4 nt c4] (Nat.zero_le _)
  have Hbx := Lib.hid hbx
  have HB2n := Lib.hid (HB2.out.trans (hnew2.mono HB2.out.size))
  clear a0 a1 b0 b1 alt blt hno hb2 hna hnp hnt hbx hnew2 HBz
  go_wp2_with fail
  refine (HmB.out _ HB2n.out).mono ?_
  rintro e w3 ⟨vp, vt, rfl, hno, hb3⟩
  have hma := hno.at_
  obtain ⟨a5, mp, c5, a6, mt, c6, rfl, rfl, hmp, hmt⟩ := hma.form2
  have Hma3 := Lib.hid hma
  have Hmp := Lib.hid hmp
  have Hmt := Lib.hid hmt
  have hbx3 := row_to (C := 0) Hbx.out hb3 (Nat.le_refl _)
  have x0 := boxRow.cell hbx3 (j := 0) rfl
  have x1 := boxRow.cell hbx3 (j := 1) rfl
  have xlt := (boxRow.lt hbx3).2
  have HB3 := Lib.hid (HB2n.out.trans (hb3.mono HB2n.out.size))
  have hna3 := (Hna2.out.below Hnew2.out).below hb3
  have Hna3 := Lib.hid hna3
  have a30 := bcell (bcell aa0 alt2 Hnew2.out) (Nat.lt_of_lt_of_le alt2 Hnew2.out.size) hb3
  have a31 := bcell (bcell aa1 alt2 Hnew2.out) (Nat.lt_of_lt_of_le alt2 Hnew2.out.size) hb3
  have alt3 := Nat.lt_of_lt_of_le (Nat.lt_of_lt_of_le alt2 Hnew2.out.size) hb3.size
  have hnew3 : Below w3.heap.size w3 (w3.alloc (.cells #[.slice a5 mp c5, .slice a6 mt c6] 30)) := (Below.refl _ _).alloc (Nat.le_refl _) _
  have Hnew3 := Lib.hid hnew3
  have hby := boxRow.new 0 w3 30 #[.slice a5 mp c5, .slice a6 mt c6] (Nat.zero_le _)
  have Hby := Lib.hid hby
  have hcopy := copy_any Hnp.out Hnt.out (by rw [Hnp.out]; exact Hfacts.out.1) (by rw [Hnt.out]; exact Hfacts.out.2.1) Hfacts.out.2.2.1 (hna3.below hnew3)
  have hy0 := boxRow.cell hby (j := 0) rfl
  have hy1 := boxRow.cell hby (j := 1) rfl
  have hylt := (boxRow.lt hby).2
  have hx0 := bcell x0 xlt hnew3
  have hx1 := bcell x1 xlt hnew3
  have hxlt := Nat.lt_of_lt_of_le xlt hnew3.size
  have ha0 := bcell a30 alt3 hnew3
  have ha1 := bcell a31 alt3 hnew3
  have halt := Nat.lt_of_lt_of_le alt3 hnew3.size
  have hnax := hna3.below hnew3
  have hnay := hma.below hnew3
  have hBw := HB3.out.trans (hnew3.mono HB3.out.size)
  have HALL := Lib.hid (And.intro hcopy (And.intro hy0 (And.intro hy1 (And.intro hylt (And.intro hx0 (And.intro hx1 (And.intro hxlt (And.intro ha0 (And.intro ha1 (And.intro halt (And.intro hnax (And.intro hnay hBw))))))))))))
  clear hcopy hy0 hy1 hylt hx0 hx1 hxlt ha0 ha1 halt hnax hnay hBw
  clear hno hb3 hma hmp hmt hbx3 hna3 hnew3 hby bb0 bb1 blt2 aa0 aa1 alt2 HB2 Hna2 Hnew2 Hbx HB2n HmB Hna3 Hma3 HB3 Hby Hnew3
  go_wp2_with fail
  clear x0 x1 xlt a30 a31 alt3
  obtain ⟨xb, hxb⟩ : ∃ b, b = w2.heap.size := ⟨_, rfl⟩
  obtain ⟨yb, hyb⟩ : ∃ b, b = w3.heap.size := ⟨_, rfl⟩
  rw [← hxb, ← hyb] at HALL ⊢
  revert HALL
  generalize w3.alloc (.cells #[.slice a5 mp c5, .slice a6 mt c6] 30) = W3
  intro HALL
  clear hxb hyb
  have hcopy := HALL.out.1
  refine hcopy.mono ?_
  rintro e w4 ⟨vp, vt, rfl, hno, hb4⟩
  obtain ⟨-, hy0, hy1, hylt, hx0, hx1, hxlt, ha0, ha1, halt, hnax, hnay, hBw⟩ := HALL.out
  obtain ⟨lc, hlc, hac⟩ := hno
  have hlcl : nt = lc.length := by rw [Hnt.out, ← hlc, List.length_map]
  obtain ⟨a7, c7, ev⟩ := own_form (hac.own (plRow vp N.places) (by simp [netRows]))
  replace ev : vp = .slice a7 N.places.length c7 := ev
  rw [← Hnp.out] at ev
  subst ev
  obtain ⟨a8, c8, ev⟩ := own_form (hac.own (trRow vt lc) (by simp [netRows]))
  replace ev : vt = .slice a8 lc.length c8 := ev
  rw [← hlcl] at ev
  subst ev
  have hnew4 : Below w4.heap.size w4 (w4.alloc (.cells #[.slice a7 np c7, .slice a8 nt c8] 30)) := (Below.refl _ _).alloc (Nat.le_refl _) _
  have hb34 : Below W3.heap.size W3 (w4.alloc (.cells #[.slice a7 np c7, .slice a8 nt c8] 30)) := hb4.trans (hnew4.mono hb4.size)
  have hin : InNear W3 (w4.alloc (.cells #[.slice a7 np c7, .slice a8 nt c8] 30)) W3.heap.size w4.heap.size a7 np c7 a8 nt c8 N.places lc := by
    refine ⟨?_, Hnp.out, hlcl, fun p hp => (Hfacts.out.2.2.2.2.1 p hp).2.2, fun x hx => ?_, hb34, Nat.le_refl _, hb34.size⟩
    · have h3 := hac.add hnew4 (boxRow.new W3.heap.size w4 30 #[.slice a7 np c7, .slice a8 nt c8] hb4.size) (fun k e => by injection e with e; subst e; exact Nat.le_refl _)
      exact h3.perm (List.perm_append_singleton _ _)
    · have hx2 : x.1 ∈ N.trans := by rw [← hlc]; exact List.mem_map_of_mem (f := (·.1)) hx
      exact (Hfacts.out.2.2.2.2.2 _ hx2).1
  have Hin := Lib.hid hin
  have Hlc := Lib.hid hlc
  have hcb := hin.all.own (boxRow w4.heap.size 30 [.slice a7 np c7, .slice a8 nt c8]) (by simp)
  have z0 := boxRow.cell hcb (j := 0) rfl
  have z1 := boxRow.cell hcb (j := 1) rfl
  have zlt := (boxRow.lt hcb).2
  have y0 := bcell hy0 hylt hb34
  have y1 := bcell hy1 hylt hb34
  have ylt := Nat.lt_of_lt_of_le hylt hb34.size
  have x0 := bcell hx0 hxlt hb34
  have x1 := bcell hx1 hxlt hb34
  have xlt := Nat.lt_of_lt_of_le hxlt hb34.size
  have hnx5 := hnax.below hb34
  have hny5 := hnay.below hb34
  have hnc5 : NetAt (w4.alloc (.cells #[.slice a7 np c7, .slice a8 nt c8] 30)) (.slice a7 np c7) (.slice a8 nt c8) N := NetOwn.at_ ⟨lc, hlc, hin.all.sub (List.sublist_cons_self _ _)⟩
  obtain ⟨cb, hcbb⟩ : ∃ b, b = w4.heap.size := ⟨_, rfl⟩
  have HALL5 := Lib.hid (And.intro hnx5 (And.intro hny5 (And.intro hnc5 (And.intro z0 (And.intro z1 (And.intro zlt (And.intro y0 (And.intro y1 (And.intro ylt (And.intro x0 (And.intro x1 (And.intro xlt hin))))))))))))
  clear hcopy hy0 hy1 hylt hx0 hx1 hxlt ha0 ha1 halt hnax hnay hBw hb4 hac hlc hnew4 hb34 hin hcb z0 z1 zlt y0 y1 ylt x0 x1 xlt hnx5 hny5 hnc5 hlcl Hin
  go_upto_region 8 with (fail)
  rw [← hcbb] at HALL5 ⊢
  revert HALL5
  generalize w4.alloc (.cells #[.slice a7 np c7, .slice a8 nt c8] 30) = W5
  intro HALL5
  clear hcbb
  obtain ⟨hnx5, hny5, hnc5, z0, z1, zlt, y0, y1, ylt, x0, x1, xlt, -⟩ := HALL5.out
  obtain ⟨q, hq⟩ : ∃ q, q = sameN N M := ⟨_, rfl⟩
  have HqE1 : Hid (∀ p : NewBy W5, Calls Try.prog 12 #[.agg #[.slice a3 np c3, .slice a4 nt c4], .agg #[.slice a5 mp c5, .slice a6 mt c6]] p.to fun e w' => e = .returned (.bool q) ∧ Below p.to.heap.size p.to w') :=
    Lib.hid (fun p => by rw [hq]; exact equal_any Hnp.out Hnt.out Hmp.out Hmt.out (hnx5.below p.below) (hny5.below p.below))
  have HqS1 : Hid (∀ p : NewBy W5, Calls Try.prog 13 #[.agg #[.slice a3 np c3, .slice a4 nt c4], .agg #[.slice a5 mp c5, .slice a6 mt c6]] p.to fun e w' => e = .returned (.bool q) ∧ Below p.to.heap.size p.to w') :=
    Lib.hid (fun p => by rw [hq]; exact same_any Hnp.out Hnt.out Hmp.out Hmt.out (hnx5.below p.below) (hny5.below p.below))
  have HqE2 : Hid (∀ p : NewBy W5, Calls Try.prog 12 #[.agg #[.slice a3 np c3, .slice a4 nt c4], .agg #[.slice a7 np c7, .slice a8 nt c8]] p.to fun e w' => e = .returned (.bool true) ∧ Below p.to.heap.size p.to w') :=
    Lib.hid (fun p => by have h := equal_any Hnp.out Hnt.out Hnp.out Hnt.out (hnx5.below p.below) (hnc5.below p.below); rw [sameN_refl] at h; exact h)
  have HqS2 : Hid (∀ p : NewBy W5, Calls Try.prog 13 #[.agg #[.slice a3 np c3, .slice a4 nt c4], .agg #[.slice a7 np c7, .slice a8 nt c8]] p.to fun e w' => e = .returned (.bool true) ∧ Below p.to.heap.size p.to w') :=
    Lib.hid (fun p => by have h := same_any Hnp.out Hnt.out Hnp.out Hnt.out (hnx5.below p.below) (hnc5.below p.below); rw [sameN_refl] at h; exact h)
  have fz0 := fun p : NewBy W5 => NewBy.cell zlt z0 p
  have fz1 := fun p : NewBy W5 => NewBy.cell zlt z1 p
  have fy0 := fun p : NewBy W5 => NewBy.cell ylt y0 p
  have fy1 := fun p : NewBy W5 => NewBy.cell ylt y1 p
  have fx0 := fun p : NewBy W5 => NewBy.cell xlt x0 p
  have fx1 := fun p : NewBy W5 => NewBy.cell xlt x1 p
  clear hnx5 hny5 hnc5 hq z0 z1 y0 y1 x0 x1
  refine wp_region_new (by kernel_rfl) (by kernel_rfl) ?_
  iterate 8 (go_big_quiet_step (first | (go_at_call 12; exact Calls.new_of (HqE1.out _)) | (go_at_call 13; exact Calls.new_of (HqS1.out _))))
  repeat (go_big_quiet_step (first | (go_at_call 12; exact Calls.new_of (HqE2.out _)) | (go_at_call 13; exact Calls.new_of (HqS2.out _))))
  refine wpQuiet_nil ?_
  intro wz hzz
  obtain ⟨pz, hzz⟩ := hzz
  subst hzz
  have hin6 := HALL5.out.2.2.2.2.2.2.2.2.2.2.2.2.go pz.below
  clear fz0 fz1 fy0 fy1 fx0 fx1 HqE1 HqE2 HqS1 HqS2 zlt ylt xlt HALL5
  have hcb := hin6.all.own (boxRow cb 30 [.slice a7 np c7, .slice a8 nt c8]) (by simp)
  have z0 := boxRow.cell hcb (j := 0) rfl
  have z1 := boxRow.cell hcb (j := 1) rfl
  have zlt := (boxRow.lt hcb).2
  have hnp1 : 0 < np := by rw [Hnp.out]; exact Hfacts.out.2.2.2.1
  obtain ⟨r, p, rfl, hrB, hrlt, hp, p0, p1, pfz⟩ := hin6.place (i := 0) hnp1
  rw [Nat.zero_mul, Nat.zero_add] at p1
  have pf1 := pfz 1
  obtain ⟨ht0, ht5, hns⟩ := Hfacts.out.2.2.2.2.1 p (List.mem_of_getElem? hp)
  have hset := hin6.setPl (i := 0) (j := 1) (p' := ⟨p.name, p.tok + 1⟩) (y := .int .i64 (p.tok + 1)) hp (by omega) rfl hns
  rw [Nat.zero_mul, Nat.zero_add] at hset
  obtain ⟨N', hN'⟩ : ∃ ps, ps = N.places.set 0 ⟨p.name, p.tok + 1⟩ := ⟨_, rfl⟩
  rw [← hN'] at hset
  have Hdiff : Hid (∀ l, sameN N ⟨N', l⟩ = false) := Lib.hid (fun l => by
    cases e : sameN N ⟨N', l⟩ with
    | false => rfl
    | true =>
      have e2 := congrArg (fun n : Nt => (n.places[0]?).map (·.tok)) (sameN_eq e)
      simp only [hN', hp] at e2
      rw [List.getElem?_set_self (lt_at hp)] at e2
      have e3 : p.tok = p.tok + 1 := by simpa using e2
      omega)
  have Hnp2 : Hid (np = N'.length) := Lib.hid (by rw [hN', List.length_set]; exact Hnp.out)
  have Hset := Lib.hid hset
  have hcb2 := hset.all.own (boxRow cb 30 [.slice (some ⟨r, 0, none⟩) np c7, .slice a8 nt c8]) (by simp)
  have y0 := boxRow.cell hcb2 (j := 0) rfl
  have y1 := boxRow.cell hcb2 (j := 1) rfl
  have ylt := (boxRow.lt hcb2).2
  have hmaxnt : nt ≤ 1000000 := by rw [Hnt.out]; exact Hfacts.out.2.1
  have hnpi : (0 : Int) < (np : Int) := by omega
  clear hcb hcb2 hset hin6 pfz hrB hp hN' hns
  go_upto_if 75 with (fail)
  clear z0 z1 zlt p0 p1 pf1 hrlt
  revert Hset y0 y1 ylt
  generalize pz.to.setCell ⟨r, 1, none⟩ (.int .i64 (p.tok + 1)) = W6
  intro Hset y0 y1 ylt
  obtain ⟨bq, hbq⟩ : ∃ b, b = decide (0 < nt) := ⟨_, rfl⟩
  rw [← hbq]
  have Hbq := Lib.hid hbq
  clear hbq
  go_cut [] from 75 to 86 (fun wc => ∃ l' : List (Tr × Value × Value × Value), InNear W3 wc W3.heap.size cb (some ⟨r, 0, none⟩) np c7 a8 nt c8 N' l')
  case first =>
    cases bq with
    | false =>
      go_wp2
      go_meet
      case rel => exact ⟨_, Hset.out⟩
    | true =>
      have hntp : 0 < nt := by have := of_decide_eq_true Hbq.out.symm; omega
      have hnti : (0 : Int) < (nt : Int) := by omega
      obtain ⟨rt, t, v1, v2, v3, rfl, hrt, hrtlt, hl0, _, _, _, t3, _, _, tfz, hv1, _, _⟩ := Hset.out.trans (i := 0) hntp
      rw [Nat.zero_mul, Nat.zero_add] at t3
      have htN : t ∈ N.trans := by
        rw [← Hlc.out]
        exact List.mem_map_of_mem (f := (·.1)) (List.mem_of_getElem? hl0)
      obtain ⟨-, ⟨ax, ay⟩, hax, hay1, hay2⟩ := Hfacts.out.2.2.2.2.2 t htN
      simp only at hay1 hay2
      have hlen : 0 < t.inn.length := lt_at hax
      rcases hv1.2 with ⟨_, h0⟩ | ⟨rb, cap, cur, ev, _⟩
      · omega
      · subst ev
        have hrow : RowAt 2 W6 (.slice (some ⟨rb, 0, none⟩) t.inn.length cap) t.inn.length (t.inn.flatMap arcL) := RowAt.of_own hv1
        obtain ⟨b', off', e', hbl, hc⟩ := RowAt.elem arcL_len hrow hax
        injection e' with e'
        injection e' with e4 e5 _
        subst e4 e5
        have k1 := hc 1 _ rfl
        rw [Nat.zero_mul, Nat.zero_add] at k1
        replace k1 : W6.cell? ⟨rb, 1, none⟩ = some (.int .i64 ay) := k1
        have kf : W6.frozen? ⟨rb, 1, none⟩ = false := World.ownsRow.frozenAt hv1 1
        have hs2 := Hset.out.setIn (q := 0) (j := 1) (a := (ax, ay)) (a' := (ax, ay + 1)) (y := .int .i64 (ay + 1)) hl0 hax (by omega) rfl
        rw [Nat.zero_mul, Nat.zero_add] at hs2
        have Hs2 := Lib.hid hs2
        obtain ⟨ni, hni⟩ : ∃ n, n = t.inn.length := ⟨_, rfl⟩
        rw [← hni] at t3 hlen
        have hnii : (0 : Int) < (ni : Int) := by omega
        clear hs2 hrow hc hv1 hax htN hl0 tfz hni
        go_wp2
        go_meet
        case rel => exact ⟨_, Hs2.out⟩
  case rest =>
    obtain ⟨l', hinz⟩ := hcut
    rename World => Wz
    obtain ⟨-, -, -, -, hx0, hx1, hxlt, ha0, ha1, halt, hnax, -, hBw⟩ := HALL.out
    have hb := hinz.below
    have x0 := bcell hx0 hxlt hb
    have x1 := bcell hx1 hxlt hb
    have xlt := Nat.lt_of_lt_of_le hxlt hb.size
    have a0 := bcell ha0 halt hb
    have a1 := bcell ha1 halt hb
    have alt := Nat.lt_of_lt_of_le halt hb.size
    have hcb := hinz.all.own (boxRow cb 30 [.slice (some ⟨r, 0, none⟩) np c7, .slice a8 nt c8]) (by simp)
    have z0 := boxRow.cell hcb (j := 0) rfl
    have z1 := boxRow.cell hcb (j := 1) rfl
    have zlt := (boxRow.lt hcb).2
    have hdr : Below Wz.heap.size Wz Wz.drew := (Below.refl _ _).drew
    have Hnx7 := Lib.hid ((hnax.below hb).below hdr)
    have Hnc7 : Hid (NetAt Wz.drew (.slice (some ⟨r, 0, none⟩) np c7) (.slice a8 nt c8) ⟨N', l'.map (·.1)⟩) := Lib.hid (NetAt.below (NetOwn.at_ ⟨l', rfl, hinz.all.sub (List.sublist_cons_self _ _)⟩) hdr)
    have Hnl : Hid (nt = (l'.map (·.1)).length) := Lib.hid (by rw [List.length_map]; exact hinz.hl)
    have HBz : Hid (Below w.heap.size w Wz.drew) := Lib.hid ((hBw.trans (hb.mono hBw.size)).trans (hdr.mono (Nat.le_trans hBw.size hb.size)))
    have Hm7 := Lib.hid (HmA.out Wz.drew HBz.out)
    clear hx0 hx1 hxlt ha0 ha1 halt hnax hBw hb hcb hdr hinz HALL Hset HmA y0 y1 ylt
    go_wp2_with fail
    go_region_law (first | (go_simp; go_at_call 10; refine Hm7.out.mono ?_; rintro e w7 ⟨vp, vt, rfl, hno, hb7⟩; obtain ⟨a9, n9, c9, a10, n10, c10, rfl, rfl, hn9, hn10⟩ := hno.at_.form2; have Hsm := same_any Hnp.out Hnt.out hn9 hn10 (Hnx7.out.below hb7) hno.at_; rw [sameN_refl] at Hsm; have HB7 := Lib.hid (HBz.out.trans (hb7.mono HBz.out.size)); have Hnx8 := Lib.hid (Hnx7.out.below hb7); have Hnc8 := Lib.hid (Hnc7.out.below hb7); have k0 := bcell (w := Wz.drew) x0 xlt hb7; have k1 := bcell (w := Wz.drew) x1 xlt hb7; have klt := Nat.lt_of_lt_of_le xlt hb7.size; have m0 := bcell (w := Wz.drew) z0 zlt hb7; have m1 := bcell (w := Wz.drew) z1 zlt hb7; have mlt := Nat.lt_of_lt_of_le zlt hb7.size; clear hno hb7 hn9 hn10) | (go_simp; go_at_call 13; refine Hsm.mono ?_; rintro e w8 ⟨rfl, hb8⟩; have Heq := equal_any Hnp.out Hnt.out Hnp2.out Hnl.out (Hnx8.out.below hb8) (Hnc8.out.below hb8); rw [Hdiff.out] at Heq; have HB8 := Lib.hid (HB7.out.trans (hb8.mono HB7.out.size)); have j0 := bcell k0 klt hb8; have j1 := bcell k1 klt hb8; have i0 := bcell m0 mlt hb8; have i1 := bcell m1 mlt hb8; clear hb8) | (go_simp; go_at_call 12; refine Heq.mono ?_; rintro e w9 ⟨rfl, hb9⟩; have HB9 := Lib.hid (HB8.out.trans (hb9.mono HB8.out.size)); clear hb9))
    all_goals
      go_wp2
      go_ret
      exact ⟨rfl, HB9.out⟩
end Go.Proofs.Ytpllpofoclijlaa
