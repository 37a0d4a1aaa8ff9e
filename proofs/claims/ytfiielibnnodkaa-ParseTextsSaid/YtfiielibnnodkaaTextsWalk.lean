/-
  The walk of the law ParseTexts: a net's text is that net.
  Conditions: none beyond the theorems' own.
-/
import Derived.Test.YtfiielibnnodkaaRTexts
import Derived.Test.YtfiielibnnodkaaPUse
import Derived.Test.YtfiielibnnodkaaPAwake
import Derived.Test.YtfiielibnnodkaaInBx
import Derived.Deep.RegionLaw
namespace Go.Proofs.Ytfiielibnnodkaa
open Go.RowKit
set_option linter.unusedVariables false

theorem makeN_ok {ts : List Nat} {acs : List Ac} (h : AllOk acs) : NetOk (makeN ts acs).places.length (makeN ts acs) := checkN_netOk (makeN_check h)

set_option maxRecDepth 100000 in
set_option maxHeartbeats 4000000 in
theorem texts_small {w : World} {aT aA : Option Addr} {cTok cA : Nat} {ts : List Nat} {acs : List Ac} (h : DraftAt w (.slice aT ts.length cTok) (.slice aA acs.length cA) ts acs) (h60 : ts.length ≤ 60) (h12 : acs.length ≤ 12) :
    Calls Try.prog 7 #[.agg #[.slice aT ts.length cTok, .slice aA acs.length cA]] w fun e w' => e = .returned (.bool true) ∧ Below w.heap.size w w' := by
  have Hmake : Hid (∀ W : World, Below w.heap.size w W → Calls Try.prog 10 #[.agg #[.slice aT ts.length cTok, .slice aA acs.length cA]] W fun e w' => ∃ vp vt, e = .returned (.agg #[vp, vt]) ∧ NetOwn W.heap.size w' vp vt (makeN ts acs) ∧ Below W.heap.size W w') := Lib.hid (fun W hW => make_any (h.below hW))
  have Hok := Lib.hid (makeN_ok (ts := ts) h.ok)
  obtain ⟨N, hN⟩ : ∃ N, N = makeN ts acs := ⟨_, rfl⟩
  rw [← hN] at Hmake Hok
  obtain ⟨nT, hnT⟩ : ∃ k, k = ts.length := ⟨_, rfl⟩
  obtain ⟨nA, hnA⟩ : ∃ k, k = acs.length := ⟨_, rfl⟩
  rw [← hnT, ← hnA] at Hmake ⊢
  have h60i : ¬ (60 : Int) < (nT : Int) := by omega
  have h60b : decide ((60 : Int) < (nT : Int)) = false := decide_eq_false h60i
  have h60c : decide (60 < nT) = false := decide_eq_false (by omega)
  have h12i : ¬ (12 : Int) < (nA : Int) := by omega
  have h12b : decide ((12 : Int) < (nA : Int)) = false := decide_eq_false h12i
  have h12c : decide (12 < nA) = false := decide_eq_false (by omega)
  clear h hnT hnA h60 h12 hN
  go_enter Try.func7, Try.ntmps7
  go_wp2_with fail
  refine (awake6 _).mono ?_
  rintro e w1 ⟨rfl, hb⟩
  have hi := (InBx.start 25 w (.slice aT nT cTok) (.slice aA nA cA)).go hb
  have b0 := hi.c0
  have b1 := hi.c1
  have Hi := Lib.hid hi
  clear hb hi
  go_wp2_with fail
  refine (Hmake.out _ Hi.out.old).mono ?_
  rintro e w2 ⟨vp, vt, rfl, hno, hb2⟩
  have hna := hno.at_
  obtain ⟨a1, np, c1, a2, nt, c2, rfl, rfl, hnp, hnt⟩ := hna.form2
  have Hi2 := Lib.hid (Hi.out.go hb2)
  have htx := rtext_any hnp hnt hna Hok.out
  obtain ⟨S, hS⟩ : ∃ S, S = bs (textN N) := ⟨_, rfl⟩
  rw [← hS] at htx
  have HS := Lib.hid hS
  clear hno hb2 b0 b1 hna hS hnp hnt
  go_wp2_with fail
  refine htx.mono ?_
  rintro e w3 ⟨rfl, hb3⟩
  have Hi3 := Lib.hid (Hi2.out.go hb3)
  obtain ⟨bb, cc, w4, hrb, hcc, hB, b4⟩ := run_bytes_of w3 S
  have hSs : S.size ≤ 30000 := by rw [HS.out, bs_size]; exact Hok.out.fits.text_len
  have hpt : parseL S.data.toList = .ok N := by rw [HS.out]; exact parse_text Hok.out
  have hnet := net_ok hB cc hcc (by omega) hpt
  have Hi4 := Lib.hid (Hi3.out.go b4)
  clear hb3 htx hB hcc hpt b4 hSs
  go_wp2_with fail
  refine hnet.mono ?_
  rintro e w5 ⟨a3, n3, c3, a4, n4, c4, rfl, hn3, hn4, hna5, hb5⟩
  have Hi5 := Lib.hid (Hi4.out.go hb5)
  have Hna5 := Lib.hid hna5
  have Hn3 := Lib.hid hn3
  have Hn4 := Lib.hid hn4
  clear hnet hrb hb5 hna5 hn3 hn4
  go_upto_region 4 with (fail)
  have hR := Res.start w5 (.slice a3 n3 c3) (.slice a4 n4 c4)
  have Hi6 := Lib.hid ((Hi5.out.go ((Below.refl _ _).alloc (Nat.le_refl _) (.cells #[.slice a3 n3 c3, .slice a4 n4 c4] 30))).go ((Below.refl _ _).alloc (Nat.le_refl _) (.cells #[.int .i64 0, .int .i64 0, .int .i64 0, .int .i64 0] 49)))
  have Hna6 : Hid (NetAt ((w5.alloc (.cells #[.slice a3 n3 c3, .slice a4 n4 c4] 30)).alloc (.cells #[.int .i64 0, .int .i64 0, .int .i64 0, .int .i64 0] 49)) (.slice a3 n3 c3) (.slice a4 n4 c4) N) := Lib.hid ((Hna5.out.below ((Below.refl _ _).alloc (Nat.le_refl _) _)).below ((Below.refl _ _).alloc (Nat.le_refl _) _))
  obtain ⟨B5, hB5⟩ : ∃ B, B = w5.heap.size := ⟨_, rfl⟩
  rw [← hB5]
  rw [← hB5] at hR
  clear Hi5 Hna5 hB5
  revert hR Hi6 Hna6
  generalize (w5.alloc (.cells #[.slice a3 n3 c3, .slice a4 n4 c4] 30)).alloc (.cells #[.int .i64 0, .int .i64 0, .int .i64 0, .int .i64 0] 49) = W
  intro Hi6 Hna6 hR
  have HR := Lib.hid hR
  obtain ⟨r0, r1, f0, f1, f2, f3, flt⟩ := hR
  have d0 := Hi6.out.c0
  have d1 := Hi6.out.c1
  have dlt := Hi6.out.size
  have flt0 : B5 < W.heap.size := by omega
  have hWd : Below W.heap.size W W.drew := (Below.refl _ _).drew
  have Hm7 := Lib.hid (Hmake.out W.drew (Hi6.out.old.trans (hWd.mono Hi6.out.old.size)))
  have Hok8 : Hid (sameN N N = true) := Lib.hid (sameN_refl N)
  have HW : Hid (Below w.heap.size w W) := Lib.hid Hi6.out.old
  have Hna7 := Lib.hid (Hna6.out.below hWd)
  clear hWd Hmake Hi Hi2 Hi3 Hi4 Hi6 Hna6 HS HR Hok
  go_region_law (first | (go_simp; go_at_call 10; refine Hm7.out.mono ?_; rintro e w7 ⟨vp, vt, rfl, hno, hb7⟩; obtain ⟨a5, n5, c5, a6, n6, c6, rfl, rfl, hn5, hn6⟩ := hno.at_.form2; have Hsm := same_any Hn3.out Hn4.out hn5 hn6 (Hna7.out.below hb7) hno.at_; rw [Hok8.out] at Hsm; have HB7 := Lib.hid hb7; have k5 : w7.cell? ⟨B5, 0, none⟩ = some (.slice a3 n3 c3) := (below_cells hb7 B5 0 (by simpa using flt0)).trans (by simpa using r0); have k6 : w7.cell? ⟨B5, 1, none⟩ = some (.slice a4 n4 c4) := (below_cells hb7 B5 1 (by simpa using flt0)).trans (by simpa using r1); have k7 : B5 < w7.heap.size := Nat.lt_of_lt_of_le (by simpa using flt0) hb7.size; clear hno hb7 hn5 hn6) | (go_simp; go_at_call 13; refine Hsm.mono ?_; rintro e w8 ⟨rfl, hb8⟩))
  all_goals
    have HB8 : Hid (Below w.heap.size w w8) := Lib.hid (HW.out.trans ((((Below.refl _ W).drew.trans (HB7.out.mono (by simp))).trans (hb8.mono (by have := HB7.out.size; simpa using this))).mono HW.out.size))
    clear k5 k6 k7 Hsm hb8
    go_wp2
    go_ret
    exact ⟨rfl, HB8.out⟩

set_option maxRecDepth 100000 in
set_option maxHeartbeats 4000000 in
theorem texts_big {w : World} {aT aA : Option Addr} {cTok cA nT nA : Nat} (hT : nT ≤ 9223372036854775807) (hA : nA ≤ 9223372036854775807) (h : 60 < nT ∨ (nT ≤ 60 ∧ 12 < nA)) :
    Calls Try.prog 7 #[.agg #[.slice aT nT cTok, .slice aA nA cA]] w fun e w' => e = .returned (.bool true) ∧ Below w.heap.size w w' := by
  rcases h with h1 | ⟨h1, h2⟩
  · have h1i : (60 : Int) < (nT : Int) := by omega
    go_enter Try.func7, Try.ntmps7
    go_wp2_with fail
    refine (awake6 _).mono ?_
    rintro e w1 ⟨rfl, hb⟩
    have hi := (InBx.start 25 w (.slice aT nT cTok) (.slice aA nA cA)).go hb
    have b0 := hi.c0
    have b1 := hi.c1
    have Hi := Lib.hid hi
    clear hb hi
    go_wp2_with fail
    refine (awake6 _).mono ?_
    rintro e w2 ⟨rfl, hb⟩
    have Hi2 := Lib.hid (Hi.out.go hb)
    clear hb
    go_wp2
    go_ret
    exact ⟨rfl, Hi2.out.old⟩
  · have h1i : ¬ (60 : Int) < (nT : Int) := by omega
    have h1b : decide ((60 : Int) < (nT : Int)) = false := decide_eq_false h1i
    have h1c : decide (60 < nT) = false := decide_eq_false (by omega)
    have h2i : (12 : Int) < (nA : Int) := by omega
    go_enter Try.func7, Try.ntmps7
    go_wp2_with fail
    refine (awake6 _).mono ?_
    rintro e w1 ⟨rfl, hb⟩
    have hi := (InBx.start 25 w (.slice aT nT cTok) (.slice aA nA cA)).go hb
    have b0 := hi.c0
    have b1 := hi.c1
    have Hi := Lib.hid hi
    clear hb hi
    go_wp2_with fail
    refine (awake6 _).mono ?_
    rintro e w2 ⟨rfl, hb⟩
    have Hi2 := Lib.hid (Hi.out.go hb)
    clear hb
    go_wp2
    go_ret
    exact ⟨rfl, Hi2.out.old⟩

theorem texts_law {w : World} {aT aA : Option Addr} {cTok cA : Nat} {ts : List Nat} {acs : List Ac} (h : DraftAt w (.slice aT ts.length cTok) (.slice aA acs.length cA) ts acs) :
    Calls Try.prog 7 #[.agg #[.slice aT ts.length cTok, .slice aA acs.length cA]] w fun e w' => e = .returned (.bool true) ∧ Below w.heap.size w w' := by
  by_cases h60 : ts.length ≤ 60
  · by_cases h12 : acs.length ≤ 12
    · exact texts_small h h60 h12
    · exact texts_big (RowAt.max h.toks) (RowAt.max h.acts) (.inr ⟨h60, by omega⟩)
  · exact texts_big (RowAt.max h.toks) (RowAt.max h.acts) (.inl (by omega))
end Go.Proofs.Ytfiielibnnodkaa
