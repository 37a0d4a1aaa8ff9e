/-
  The walk of the law MatrixOf: what each transition changes on each place; turned, and turned again.
  Conditions: none beyond the theorems' own.
-/
import Derived.Test.YtpbbdnicafifpaaMx2
import Derived.Test.YtpbbdnicafifpaaFew11
import Derived.Test.YtpbbdnicafifpaaRunJ
namespace Go.Proofs.Ytpbbdnicafifpaa
open Go.RowKit
set_option linter.unusedVariables false

set_option maxRecDepth 100000 in
set_option maxHeartbeats 4000000 in
theorem mof_big {w : World} {aT aA : Option Addr} {cTok cA nT nA : Nat} (h : 60 < nT ∨ 12 < nA) :
    Calls Try.prog 3 #[.agg #[.slice aT nT cTok, .slice aA nA cA]] w fun e w' => e = .returned (.bool true) ∧ Below w.heap.size w w' := by
  have Hfew : Hid (false = (decide (nT ≤ 60) && decide (nA ≤ 12))) := Lib.hid (by rcases h with h | h <;> simp <;> omega)
  clear h
  go_enter Try.func3, Try.ntmps3
  go_wp2_with fail
  refine (awake11 _).mono ?_
  rintro e w1 ⟨rfl, hb⟩
  have hi := (InBx.start 25 w (.slice aT nT cTok) (.slice aA nA cA)).go hb
  have b0 := hi.c0
  have b1 := hi.c1
  have Hi := Lib.hid hi
  clear hb hi
  go_wp2_with fail
  refine (few11_any false Hfew.out).mono ?_
  rintro e w2 ⟨rfl, hb2⟩
  have Hi2 := Lib.hid (Hi.out.go hb2)
  clear b0 b1 hb2
  go_wp2_with fail
  refine (awake11 _).mono ?_
  rintro e w3 ⟨rfl, hb3⟩
  have Hi3 := Lib.hid (Hi2.out.go hb3)
  clear hb3
  go_wp2
  go_ret
  exact ⟨rfl, Hi3.out.old⟩

set_option maxRecDepth 100000 in
set_option maxHeartbeats 4000000 in
theorem mof_small {w : World} {aT aA : Option Addr} {cTok cA : Nat} {ts : List Nat} {acs : List Ac} (h : DraftAt w (.slice aT ts.length cTok) (.slice aA acs.length cA) ts acs) (h60 : ts.length ≤ 60) (h12 : acs.length ≤ 12) :
    Calls Try.prog 3 #[.agg #[.slice aT ts.length cTok, .slice aA acs.length cA]] w fun e w' => e = .returned (.bool true) ∧ Below w.heap.size w w' := by
  have Hmake : Hid (∀ W : World, Below w.heap.size w W → Calls Try.prog 16 #[.agg #[.slice aT ts.length cTok, .slice aA acs.length cA]] W fun e w' => ∃ vp vt, e = .returned (.agg #[vp, vt]) ∧ NetOwn W.heap.size w' vp vt (makeN ts acs) ∧ Below W.heap.size W w') := Lib.hid (fun W hW => make_any (h.below hW))
  have Hchk := Lib.hid (makeN_check (ts := ts) h.ok)
  have Hnm := Lib.hid (makeN_names9 ts acs)
  have Hpos : Hid (1 ≤ (makeN ts acs).places.length) := Lib.hid (by have := cntP_bd ts; rw [show (makeN ts acs).places.length = cntP ts from plsOf_len _ _]; omega)
  obtain ⟨N, hN⟩ : ∃ N, N = makeN ts acs := ⟨_, rfl⟩
  rw [← hN] at Hmake Hchk Hnm Hpos
  obtain ⟨nT, hnT⟩ : ∃ k, k = ts.length := ⟨_, rfl⟩
  obtain ⟨nA, hnA⟩ : ∃ k, k = acs.length := ⟨_, rfl⟩
  rw [← hnT, ← hnA] at Hmake ⊢
  have Hfew : Hid (true = (decide (nT ≤ 60) && decide (nA ≤ 12))) := Lib.hid (by simp; omega)
  clear h hnT hnA h60 h12 hN
  go_enter Try.func3, Try.ntmps3
  go_wp2_with fail
  refine (awake11 _).mono ?_
  rintro e w1 ⟨rfl, hb⟩
  have hi := (InBx.start 25 w (.slice aT nT cTok) (.slice aA nA cA)).go hb
  have b0 := hi.c0
  have b1 := hi.c1
  have Hi := Lib.hid hi
  clear hb hi
  go_wp2_with fail
  refine (few11_any true Hfew.out).mono ?_
  rintro e w2 ⟨rfl, hb2⟩
  clear b0 b1
  have hi := Hi.out.go hb2
  have b0 := hi.c0
  have b1 := hi.c1
  have Hi2 := Lib.hid hi
  clear hb2 hi
  go_wp2_with fail
  refine (Hmake.out _ Hi2.out.old).mono ?_
  rintro e w3 ⟨vp, vt, rfl, hno, hb3⟩
  have hna := hno.at_
  obtain ⟨a1, np, c1, a2, nt, c2, rfl, rfl, hnp, hnt⟩ := hna.form2
  have Hi3 := Lib.hid (Hi2.out.go hb3)
  have hnew : Below w3.heap.size w3 (w3.alloc (.cells #[.slice a1 np c1, .slice a2 nt c2] 31)) := (Below.refl _ _).alloc (Nat.le_refl _) _
  have Hnew := Lib.hid hnew
  have HB3 := Lib.hid Hi3.out.old
  have Hna3 := Lib.hid hna
  have Hnt := Lib.hid hnt
  have Hnp := Lib.hid hnp
  clear hno hb3 b0 b1 hna hnew hnt hnp
  have hnok := checkN_nok Hchk.out
  have hp32 : np ≤ 32 := by rw [Hnp.out]; exact hnok.pl
  have ht32 : nt ≤ 32 := by rw [Hnt.out]; exact hnok.tr
  have hppos : 0 < np := by rw [Hnp.out]; exact Hpos.out
  obtain ⟨w4, hw4⟩ : ∃ w4, w4 = w3.alloc (.cells #[.slice a1 np c1, .slice a2 nt c2] 31) := ⟨_, rfl⟩
  have hn0 : w4.cell? ⟨w3.heap.size, 0, none⟩ = some (.slice a1 np c1) := by rw [hw4]; go_simp
  have hn1 : w4.cell? ⟨w3.heap.size, 1, none⟩ = some (.slice a2 nt c2) := by rw [hw4]; go_simp
  have hs34 : w3.heap.size < w4.heap.size := by rw [hw4]; simp
  have hnew' : Below w3.heap.size w3 w4 := by rw [hw4]; exact Hnew.out
  have Hof := Lib.hid (of_any Hnp.out Hnt.out (Hna3.out.below hnew') hnok)
  have Hch := Lib.hid (fun (W : World) (hW : Below w4.heap.size w4 W) => change_any Hnp.out Hnt.out ((Hna3.out.below hnew').below hW) hnok)
  have HB4 := Lib.hid (HB3.out.trans (hnew'.mono HB3.out.size))
  have HN0 := Lib.hid hn0
  have HN1 := Lib.hid hn1
  have Hw4 := Lib.hid hw4
  rw [hw4] at Hof
  clear hnok hn0 hn1 hnew' hw4
  go_wp2_with fail
  refine Hof.out.mono ?_
  rw [← Hw4.out]
  rintro e w5 ⟨bm, rfl, hm5, hb5⟩
  have Hm5 := Lib.hid hm5.at_
  have Hb5 := Lib.hid hb5
  have Htn := Lib.hid (turn_any hm5.at_ (by omega) (by omega) nt (show nt = widthN np nt by unfold widthN; rw [if_neg (by omega)]))
  clear hm5 hb5
  go_wp2_with fail
  refine Htn.out.mono ?_
  rintro e w6 ⟨bt, rfl, hm6, hb6⟩
  have hb46 := Hb5.out.trans (hb6.mono Hb5.out.size)
  have Hb46 := Lib.hid hb46
  have Hm6 := Lib.hid (Hm5.out.below hb6)
  have Ht6 := Lib.hid hm6.at_
  have n0 := (hb46.cell (p := ⟨w3.heap.size, 0, none⟩) hs34).trans HN0.out
  have n1 := (hb46.cell (p := ⟨w3.heap.size, 1, none⟩) hs34).trans HN1.out
  have hs36 : w3.heap.size < w6.heap.size := by have := hb46.size; omega
  clear hm6 hb6 hb46
  go_wp2_with fail
  refine (Hch.out _ Hb46.out).mono ?_
  rintro e w7 ⟨ac, cc, rfl, hm7, hb7⟩
  have Hsm := Lib.hid (smat_any (Hm6.out.below hb7) hm7.at_)
  have Hb7 := Lib.hid hb7
  clear hm7 hb7 n0 n1
  go_wp2_with fail
  refine Hsm.out.mono ?_
  rintro e w8 ⟨rfl, hb8⟩
  have hb68 := Hb7.out.trans (hb8.mono Hb7.out.size)
  have hb48 := Hb46.out.trans (hb68.mono Hb46.out.size)
  have n1 := (hb48.cell (p := ⟨w3.heap.size, 1, none⟩) hs34).trans HN1.out
  have Hm8 := Lib.hid (Hm6.out.below hb68)
  have Ht8 := Lib.hid (Ht6.out.below hb68)
  have HB8 := Lib.hid (HB4.out.trans (hb48.mono HB4.out.size))
  have hs38 : w3.heap.size < w8.heap.size := by have := hb48.size; omega
  clear hb8 hb68 hb48
  by_cases hz : nt = 0
  · have hzb : ((nt : Int) == 0) = true := by simp [hz]
    clear hz
    go_wp2
    go_ret
    exact ⟨rfl, HB8.out⟩
  · have hzb : ((nt : Int) == 0) = false := by simp; omega
    have Htn2 := Lib.hid (fun (W : World) (hW : Below w8.heap.size w8 W) => turn_any (Ht8.out.below hW) (by omega) (by omega) np (show np = widthN nt np by unfold widthN; rw [if_neg hz]))
    clear hz
    go_wp2
    clear n1
    go_loopw [6] (fun i wr => ∃ k : Nat, k ≤ np ∧ i = .int .i64 k ∧ Below w8.heap.size w8 wr) (fun i _ => np - (intOf i).toNat)
    case atStart => exact ⟨0, by omega, rfl, Below.refl _ _⟩
    case round =>
      rename World => v1
      obtain ⟨p, hp, rfl, hb⟩ := hrel
      have Hb := Lib.hid hb
      by_cases hlt : p < np
      · have hlti : (p : Int) < (np : Int) := by omega
        clear hb
        go_wp2
        go_loopw [7] (fun i wr => ∃ k : Nat, k ≤ nt ∧ i = .int .i64 k ∧ Below w8.heap.size w8 wr) (fun i _ => nt - (intOf i).toNat)
        case atStart => exact ⟨0, by omega, rfl, Hb.out⟩
        case round =>
          rename World => v2
          obtain ⟨k, hk, rfl, hb⟩ := hrel
          have Hb2 := Lib.hid hb
          obtain ⟨b1, o1, am, cm, e1, hb1, x1, i1⟩ := (Hm8.out.below hb).row hlt
          injection e1 with e1
          injection e1 with e1 e1' _
          subst e1 e1'
          rw [Nat.zero_add] at x1
          by_cases hltk : k < nt
          · have hltki : (k : Int) < (nt : Int) := by omega
            obtain ⟨b2, o2, at2, ct2, e2, hb2, x2, i2⟩ := (Ht8.out.below hb).row hltk
            injection e2 with e2
            injection e2 with e2 e2' _
            subst e2 e2'
            rw [Nat.zero_add] at x2
            obtain ⟨b3, o3, rfl, hb3, x3⟩ := rowAt_at i1 hltk
            obtain ⟨b4, o4, rfl, hb4, x4⟩ := rowAt_at i2 hlt
            generalize chT N.trans p k = z at x3 x4
            clear i1 i2 hb
            go_wp2
            go_quiet (fail)
            go_wp2
            go_roundw
            case rel => exact ⟨k + 1, by omega, by go_num, below_drews Hb2.out _⟩
            case measure => simp [intOf]; omega
          · have hgek : ¬ (k : Int) < (nt : Int) := by omega
            clear i1 hb
            go_wp2
            go_roundw
            case rel => exact ⟨p + 1, by omega, by go_num, Hb2.out⟩
            case measure => simp [intOf]; omega
      · have hge : ¬ (p : Int) < (np : Int) := by omega
        have Ht := Lib.hid (Htn2.out v1 hb)
        have Hm9 := Lib.hid (Hm8.out.below hb)
        clear hb
        go_wp2_with fail
        refine Ht.out.mono ?_
        rintro e w9 ⟨bt2, rfl, hm9, hb9⟩
        have Hsm := Lib.hid (smat_any hm9.at_ (Hm9.out.below hb9))
        have HB9 := Lib.hid ((HB8.out.trans (Hb.out.mono HB8.out.size)).trans (hb9.mono (Nat.le_trans HB8.out.size Hb.out.size)))
        clear hm9 hb9
        go_wp2_with fail
        refine Hsm.out.mono ?_
        rintro e wx ⟨rfl, hbx⟩
        have HBx := Lib.hid (HB9.out.trans (hbx.mono HB9.out.size))
        clear hbx
        go_wp2
        go_ret
        exact ⟨rfl, HBx.out⟩

theorem mof_law {w : World} {aT aA : Option Addr} {cTok cA : Nat} {ts : List Nat} {acs : List Ac} (h : DraftAt w (.slice aT ts.length cTok) (.slice aA acs.length cA) ts acs) :
    Calls Try.prog 3 #[.agg #[.slice aT ts.length cTok, .slice aA acs.length cA]] w fun e w' => e = .returned (.bool true) ∧ Below w.heap.size w w' := by
  by_cases h60 : ts.length ≤ 60
  · by_cases h12 : acs.length ≤ 12
    · exact mof_small h h60 h12
    · exact mof_big (.inr (by omega))
  · exact mof_big (.inl (by omega))
end Go.Proofs.Ytpbbdnicafifpaa
