/-
  The walk of the law PlainRests: where a run was OK nothing more may fire at its last time.
  Conditions: none beyond the theorems' own.
-/
import Derived.Test.YtfekgcfojhbngaaRunJ
import Derived.Test.YtfekgcfojhbngaaNearIn
namespace Go.Proofs.Ytfekgcfojhbngaa
open Go.RowKit
set_option linter.unusedVariables false

set_option maxRecDepth 100000 in
set_option maxHeartbeats 4000000 in
theorem rests_big {w : World} {aT aA : Option Addr} {cTok cA nT nA : Nat} {hz : Nat} (h : 60 < nT ∨ 12 < nA) :
    Calls Try.prog 9 #[.agg #[.slice aT nT cTok, .slice aA nA cA], .int .u8 hz] w fun e w' => e = .returned (.bool true) ∧ Below w.heap.size w w' := by
  have Hfew : Hid (false = (decide (nT ≤ 60) && decide (nA ≤ 12))) := Lib.hid (by rcases h with h | h <;> simp <;> omega)
  clear h
  go_enter Try.func9, Try.ntmps9
  go_wp2_with fail
  refine (awake9 _).mono ?_
  rintro e w1 ⟨rfl, hb⟩
  have hi := (InBx.start 25 w (.slice aT nT cTok) (.slice aA nA cA)).go hb
  have b0 := hi.c0
  have b1 := hi.c1
  have Hi := Lib.hid hi
  clear hb hi
  go_wp2_with fail
  refine (few_any false Hfew.out).mono ?_
  rintro e w2 ⟨rfl, hb2⟩
  have Hi2 := Lib.hid (Hi.out.go hb2)
  clear b0 b1 hb2
  go_wp2_with fail
  refine (awake9 _).mono ?_
  rintro e w3 ⟨rfl, hb3⟩
  have Hi3 := Lib.hid (Hi2.out.go hb3)
  clear hb3
  go_wp2
  go_ret
  exact ⟨rfl, Hi3.out.old⟩

set_option maxRecDepth 100000 in
set_option maxHeartbeats 4000000 in
theorem rests_small {w : World} {aT aA : Option Addr} {cTok cA : Nat} {hz : Nat} {ts : List Nat} {acs : List Ac} (h : DraftAt w (.slice aT ts.length cTok) (.slice aA acs.length cA) ts acs) (h60 : ts.length ≤ 60) (h12 : acs.length ≤ 12) :
    Calls Try.prog 9 #[.agg #[.slice aT ts.length cTok, .slice aA acs.length cA], .int .u8 hz] w fun e w' => e = .returned (.bool true) ∧ Below w.heap.size w w' := by
  have Hmake : Hid (∀ W : World, Below w.heap.size w W → Calls Try.prog 13 #[.agg #[.slice aT ts.length cTok, .slice aA acs.length cA]] W fun e w' => ∃ vp vt, e = .returned (.agg #[vp, vt]) ∧ NetOwn W.heap.size w' vp vt (makeN ts acs) ∧ Below W.heap.size W w') := Lib.hid (fun W hW => make_any (h.below hW))
  have Hchk := Lib.hid (makeN_check (ts := ts) h.ok)
  have Hnm := Lib.hid (makeN_names9 ts acs)
  have Hpos : Hid (1 ≤ (makeN ts acs).places.length) := Lib.hid (by have := cntP_bd ts; rw [show (makeN ts acs).places.length = cntP ts from plsOf_len _ _]; omega)
  obtain ⟨N, hN⟩ : ∃ N, N = makeN ts acs := ⟨_, rfl⟩
  rw [← hN] at Hmake Hchk Hnm Hpos
  obtain ⟨nT, hnT⟩ : ∃ k, k = ts.length := ⟨_, rfl⟩
  obtain ⟨nA, hnA⟩ : ∃ k, k = acs.length := ⟨_, rfl⟩
  rw [← hnT, ← hnA] at Hmake ⊢
  have Hfew : Hid (true = (decide (nT ≤ 60) && decide (nA ≤ 12))) := Lib.hid (by simp; omega)
  clear h hnT hnA h60 h12 hN
  go_enter Try.func9, Try.ntmps9
  go_wp2_with fail
  refine (awake9 _).mono ?_
  rintro e w1 ⟨rfl, hb⟩
  have hi := (InBx.start 25 w (.slice aT nT cTok) (.slice aA nA cA)).go hb
  have b0 := hi.c0
  have b1 := hi.c1
  have Hi := Lib.hid hi
  clear hb hi
  go_wp2_with fail
  refine (few_any true Hfew.out).mono ?_
  rintro e w2 ⟨rfl, hb2⟩
  clear b0 b1
  have hi := Hi.out.go hb2
  have b0 := hi.c0
  have b1 := hi.c1
  have Hi2 := Lib.hid hi
  clear hb2 hi
  go_wp2_with fail
  refine (Hmake.out _ Hi2.out.old).mono ?_
  rintro e w3 ⟨vp, vt, rfl, hno, hb3⟩
  have hna := hno.at_
  obtain ⟨a1, np, c1, a2, nt, c2, rfl, rfl, hnp, hnt⟩ := hna.form2
  have Hi3 := Lib.hid (Hi2.out.go hb3)
  have hnew : Below w3.heap.size w3 (w3.alloc (.cells #[.slice a1 np c1, .slice a2 nt c2] 31)) := (Below.refl _ _).alloc (Nat.le_refl _) _
  have Hrun := Lib.hid (fun hh W (hW : Below w3.heap.size w3 W) => run_any (w := W) (h := hh) hnp hnt (hna.below hW) Hnm.out Hchk.out)
  have Hnew := Lib.hid hnew
  have HB3 := Lib.hid Hi3.out.old
  have Hna3 := Lib.hid hna
  have Hnt := Lib.hid hnt
  have Hnp := Lib.hid hnp
  clear hno hb3 b0 b1 hna hnew hnt hnp
  go_wp2_with fail
  refine (Hrun.out _ _ Hnew.out).mono ?_
  rintro e w5 ⟨al, nl, cl, bm, cm, bw, nw, rfl, hnl, hnw, ⟨hf0, r2, hi0⟩, hb5⟩
  clear hnl hnw hf0 hi0
  have hinv := runN_inv (checkN_nok Hchk.out) ((hz : Int) % 40)
  have hrest := fun he => runN_rest (checkN_nok Hchk.out) (h := (hz : Int) % 40) (by omega) he
  generalize runN N ((hz : Int) % 40) = A at r2 hinv hrest ⊢
  obtain ⟨u, tt, er⟩ := A
  simp only at r2 hinv hrest
  simp only [resV]
  have hn0 : (w3.alloc (.cells #[.slice a1 np c1, .slice a2 nt c2] 31)).cell? ⟨w3.heap.size, 0, none⟩ = some (.slice a1 np c1) := by go_simp
  have hn1 : (w3.alloc (.cells #[.slice a1 np c1, .slice a2 nt c2] 31)).cell? ⟨w3.heap.size, 1, none⟩ = some (.slice a2 nt c2) := by go_simp
  have m0 := (below_cells hb5 w3.heap.size 0 (by simp)).trans hn0
  have m1 := (below_cells hb5 w3.heap.size 1 (by simp)).trans hn1
  have m2 : w3.heap.size < w5.heap.size := by have := hb5.size; simp at this; omega
  have hb35 : Below w3.heap.size w3 w5 := Hnew.out.trans (hb5.mono Hnew.out.size)
  have hb6 : Below w5.heap.size w5 (w5.alloc (.cells #[.slice al nl cl, .slice (some ⟨bm, 0, none⟩) np cm, .slice (some ⟨bw, 0, none⟩) nw nw, .int .i64 tt] 36)) := (Below.refl _ _).alloc (Nat.le_refl _) _
  have hb36 := hb35.trans (hb6.mono hb35.size)
  have HW := Lib.hid (HB3.out.trans (hb36.mono HB3.out.size))
  by_cases he : er = 0
  · subst he
    have hq := bestTo_neg _ _ _ (hrest rfl)
    have HBst := Lib.hid (rbest9 Hnt.out (Hnp.out.trans hinv.len.symm) (Hna3.out.below hb36) (r2.below hb6) ((checkN_nok Hchk.out).fits hinv.len) (-1) (by rw [Hnt.out]; exact hq.symm))
    clear hq hrest hinv r2 hb5 hb35 hb6 hb36 hn0 hn1
    go_wp2_with (go_at_call 19; refine HBst.out.mono ?_; rintro e w6 ⟨rfl, hb7⟩; have HB7 := Lib.hid hb7; clear hb7)
    go_ret
    exact ⟨rfl, HW.out.trans (HB7.out.mono HW.out.size)⟩
  · have hne : (er == 0) = false := by simpa using he
    have hne2 : (er != 0) = true := by simpa using he
    have hne3 : ¬ er = 0 := he
    clear hrest hinv r2 hb5 hb35 hb6 hb36 hn0 hn1 he
    go_wp2
    go_ret
    exact ⟨rfl, HW.out⟩

theorem rests_law {w : World} {aT aA : Option Addr} {cTok cA : Nat} {hz : Int} (uz : (Lit.int .u8 hz).wf = true) {ts : List Nat} {acs : List Ac} (h : DraftAt w (.slice aT ts.length cTok) (.slice aA acs.length cA) ts acs) :
    Calls Try.prog 9 #[.agg #[.slice aT ts.length cTok, .slice aA acs.length cA], .int .u8 hz] w fun e w' => e = .returned (.bool true) ∧ Below w.heap.size w w' := by
  obtain ⟨hz, rfl, _⟩ := u8_nat uz
  by_cases h60 : ts.length ≤ 60
  · by_cases h12 : acs.length ≤ 12
    · exact rests_small h h60 h12
    · exact rests_big (.inr (by omega))
  · exact rests_big (.inl (by omega))
end Go.Proofs.Ytfekgcfojhbngaa
