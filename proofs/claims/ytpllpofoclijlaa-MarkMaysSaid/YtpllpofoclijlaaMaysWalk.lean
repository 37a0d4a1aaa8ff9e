/-
  The walk of the law MarkMays: for every draft and every list of numbers it returns true.
  Conditions: none beyond each theorem's own.
-/
import Derived.Test.YtpllpofoclijlaaMarkW
import Derived.Test.YtpllpofoclijlaaMarkR
import Derived.Test.YtpllpofoclijlaaMarkM
import Derived.Test.YtpllpofoclijlaaInBx
namespace Go.Proofs.Ytpllpofoclijlaa
open Go.RowKit
set_option linter.unusedVariables false

theorem Fine.fits {m : Nat} {l : List (Int × Int)} (h : Fine m l) : Fits m l := by
  rcases h with rfl | ⟨p, n, rfl, h1, h2, h3, h4⟩ | ⟨p, n, q, k, rfl, h0, h1, h2, h3, h4, h5, h6, h7, h8⟩
  · intro a ha; cases ha
  · intro a ha; simp at ha; subst ha; exact ⟨h1, h2⟩
  · intro a ha; simp at ha; rcases ha with rfl | rfl
    · exact ⟨h1, h2⟩
    · exact ⟨h5, h6⟩
theorem makeN_fits {ts : List Nat} {acs : List Ac} (h : AllOk acs) {m : List Int} (hm : m.length = (makeN ts acs).places.length) : FitsN m (makeN ts acs) := by
  have e : (makeN ts acs).places.length = cntP ts := plsOf_len _ _
  rw [e] at hm
  intro t ht
  unfold makeN trsOf at ht
  simp only [List.mem_map] at ht
  obtain ⟨k, _, rfl⟩ := ht
  have ho := h.at_ k
  rw [hm]
  exact ⟨(innOf_fine (cntP_bd ts).1 _).fits, (ntOf_fine (cntP_bd ts).1 _ ho.2.2.2.2.1).fits⟩

set_option maxRecDepth 100000 in
set_option maxHeartbeats 8000000 in
theorem mays_small {w : World} {aT aA al : Option Addr} {cTok cA nl cl : Nat} {ts : List Nat} {acs : List Ac} {zs : List Int} (h : DraftAt w (.slice aT ts.length cTok) (.slice aA acs.length cA) ts acs) (hl : IntsAt w (.slice al nl cl) zs) (hnl : nl = zs.length) (h60 : ts.length ≤ 60) (h12 : acs.length ≤ 12) (h20 : nl ≤ 20) :
    Calls Try.prog 4 #[.agg #[.slice aT ts.length cTok, .slice aA acs.length cA], .slice al nl cl] w fun e w' => e = .returned (.bool true) ∧ Below w.heap.size w w' := by
  have Hmake : Hid (∀ W : World, Below w.heap.size w W → Calls Try.prog 10 #[.agg #[.slice aT ts.length cTok, .slice aA acs.length cA]] W fun e w' => ∃ vp vt, e = .returned (.agg #[vp, vt]) ∧ NetOwn W.heap.size w' vp vt (makeN ts acs) ∧ Below W.heap.size W w') := Lib.hid (fun W hW => make_any (h.below hW))
  have Hfit : Hid (∀ m : List Int, m.length = (makeN ts acs).places.length → FitsN m (makeN ts acs)) := Lib.hid (fun m hm => makeN_fits h.ok hm)
  have Hsz : Hid ((makeN ts acs).places.length ≤ 7) := Lib.hid (by
    have e : (makeN ts acs).places.length = cntP ts := plsOf_len _ _
    rw [e]; exact (cntP_bd ts).2)
  have Hlist : Hid (∀ W : World, Below w.heap.size w W → IntsAt W (.slice al nl cl) zs) := Lib.hid (fun W hW => hl.below hW)
  have Hnl := Lib.hid hnl
  obtain ⟨N, hN⟩ : ∃ N, N = makeN ts acs := ⟨_, rfl⟩
  rw [← hN] at Hmake Hfit Hsz
  obtain ⟨nT, hnT⟩ : ∃ k, k = ts.length := ⟨_, rfl⟩
  obtain ⟨nA, hnA⟩ : ∃ k, k = acs.length := ⟨_, rfl⟩
  rw [← hnT, ← hnA] at Hmake ⊢
  have h60i : ¬ (60 : Int) < (nT : Int) := by omega
  have h60b : decide ((60 : Int) < (nT : Int)) = false := decide_eq_false h60i
  have h60c : decide (60 < nT) = false := decide_eq_false (by omega)
  have h12i : ¬ (12 : Int) < (nA : Int) := by omega
  have h12b : decide ((12 : Int) < (nA : Int)) = false := decide_eq_false h12i
  have h12c : decide (12 < nA) = false := decide_eq_false (by omega)
  have h20i : ¬ (20 : Int) < (nl : Int) := by omega
  have h20b : decide ((20 : Int) < (nl : Int)) = false := decide_eq_false h20i
  have h20c : decide (20 < nl) = false := decide_eq_false (by omega)
  clear h hl hnl hnT hnA h60 h12 h20 hN
  go_enter Try.func4, Try.ntmps4
  go_wp2_with fail
  refine (awake8_any _).mono ?_
  rintro e w1 ⟨rfl, hb⟩
  have hi := (InBx.start 25 w (.slice aT nT cTok) (.slice aA nA cA)).go hb
  have b0 := hi.c0
  have b1 := hi.c1
  have Hi := Lib.hid hi
  clear hb hi
  go_wp2_with fail
  refine (Hmake.out _ Hi.out.old).mono ?_
  rintro e w2 ⟨vp, vt, rfl, hno, hb2⟩
  have hna := hno.at_
  obtain ⟨a1, np, c1, a2, nt, c2, rfl, rfl, hnp, hnt⟩ := hna.form2
  have Hi2 := Lib.hid (Hi.out.go hb2)
  have Hna := Lib.hid hna
  have Hnp := Lib.hid hnp
  have Hnt := Lib.hid hnt
  have hnew : Below w2.heap.size w2 (w2.alloc (.cells #[.slice a1 np c1, .slice a2 nt c2] 30)) := (Below.refl _ _).alloc (Nat.le_refl _) _
  have Hnew := Lib.hid hnew
  have Hmk := Lib.hid (marks_any (ap := a1) (cp := c1) (vt := .slice a2 nt c2) (np := np) (by rw [Hnp.out]; have := Hsz.out; omega) Hnl.out (Hlist.out _ (Hi2.out.old.trans (hnew.mono Hi2.out.old.size))))
  clear hno hb2 b0 b1 hna hnp hnt hnew
  go_wp2_with fail
  refine Hmk.out.mono ?_
  rintro e w3 ⟨vm, rfl, hom, hb3⟩
  obtain ⟨am, cm, em⟩ := hom.len
  rw [marksTo_len] at em
  subst em
  have Hom := Lib.hid hom.at_
  have hin := (InBox.start w2 (.slice a1 np c1) (.slice a2 nt c2)).go hb3
  have Hin := Lib.hid hin
  have HW : Hid (Below w.heap.size w w2) := Lib.hid Hi2.out.old
  clear hom hb3 hin Hmk Hmake Hi Hi2 Hnew Hlist
  have hmax : nt ≤ 9223372036854775807 := by
    obtain ⟨_, l, hl, ht⟩ := Hna.out
    have := RowAt.max ht.1
    rw [Hnt.out, ← hl, List.length_map]; exact this
  obtain ⟨M, hM⟩ : ∃ M, M = marksTo zs np := ⟨_, rfl⟩
  have Hfit2 : Hid (FitsN M N) := Lib.hid (Hfit.out M (by rw [hM, marksTo_len]; exact Hnp.out))
  have Hml : Hid (np = M.length) := Lib.hid (by rw [hM, marksTo_len])
  rw [← hM] at Hom
  clear hM Hfit Hsz Hnl
  go_wp2
  go_loopw [7] (fun i wr => ∃ k : Nat, k ≤ nt ∧ i = .int .i64 k ∧ InBox w2 wr (.slice a1 np c1) (.slice a2 nt c2) ∧ Below w3.heap.size w3 wr) (fun i _ => nt - (intOf i).toNat)
  case atStart => exact ⟨0, by omega, rfl, Hin.out, Below.refl _ _⟩
  case round =>
    rename World => v1
    obtain ⟨k, hk, rfl, hin, hb3⟩ := hrel
    have d1 := hin.c1
    have hsz := hin.size
    have Hb3 := Lib.hid hb3
    have Hi1 := Lib.hid hin
    by_cases hlt : k < nt
    · have hlti : (k : Int) < (nt : Int) := by omega
      obtain ⟨t, htr⟩ := at_lt (l := N.trans) (k := k) (by rw [← Hnt.out]; exact hlt)
      obtain ⟨_, l, hl, ht⟩ := Hna.out
      obtain ⟨b, off, ai, ci, aj, cj, ao, co, rfl, hbw, e0, e1, e2, e3, e4, e5, hI, hN, _⟩ := (ht.below hin.old).at_ (i := k) (t := t) (by rw [hl]; exact htr)
      have hM1 := Hom.out.below hb3
      have hf := Hfit2.out t (List.mem_of_getElem? htr)
      obtain ⟨q, hq⟩ : ∃ q, q = mayB M t.inn t.nt := ⟨_, rfl⟩
      have Hm1 : Hid (∀ p : NewBy v1, Calls Try.prog 16 #[trV t.name t.delay t.prio ai t.inn.length ci aj t.nt.length cj ao t.out.length co, .slice am np cm] p.to fun e w' => e = .returned (.bool q) ∧ Below p.to.heap.size p.to w') :=
        Lib.hid (fun p => may_any rfl rfl Hml.out (hI.below p.below) (hN.below p.below) (hM1.below p.below) hf.1 hf.2 q hq)
      have Hm2 : Hid (∀ p : NewBy v1, Calls Try.prog 17 #[trV t.name t.delay t.prio ai t.inn.length ci aj t.nt.length cj ao t.out.length co, .slice am np cm] p.to fun e w' => e = .returned (.bool q) ∧ Below p.to.heap.size p.to w') :=
        Lib.hid (fun p => rmay_any rfl rfl Hml.out (hI.below p.below) (hN.below p.below) (hM1.below p.below) hf.1 hf.2 q hq)
      obtain ⟨n1, hn1⟩ : ∃ n, n = t.inn.length := ⟨_, rfl⟩
      obtain ⟨n2, hn2⟩ : ∃ n, n = t.nt.length := ⟨_, rfl⟩
      obtain ⟨n3, hn3⟩ : ∃ n, n = t.out.length := ⟨_, rfl⟩
      rw [← hn1] at e3 Hm1 Hm2
      rw [← hn2] at e4 Hm1 Hm2
      rw [← hn3] at e5 Hm1 Hm2
      have x1 := fun p : NewBy v1 => NewBy.cell (o := 1) hsz d1 p
      have y0 := fun p : NewBy v1 => NewBy.cell hbw e0 p
      have y1 := fun p : NewBy v1 => NewBy.cell hbw e1 p
      have y2 := fun p : NewBy v1 => NewBy.cell hbw e2 p
      have y3 := fun p : NewBy v1 => NewBy.cell hbw e3 p
      have y4 := fun p : NewBy v1 => NewBy.cell hbw e4 p
      have y5 := fun p : NewBy v1 => NewBy.cell hbw e5 p
      clear hI hN htr hin hn1 hn2 hn3 hM1 hf hq hb3 ht hl
      go_wp2
      refine wp_region_new (by kernel_rfl) (by kernel_rfl) ?_
      repeat (go_big_quiet_step (first | (go_at_call 17; exact Calls.new_of (Hm2.out _)) | (go_at_call 16; exact Calls.new_of (Hm1.out _))))
      refine wpQuiet_nil ?_
      intro wz hzz
      obtain ⟨pz, hzz⟩ := hzz
      subst hzz
      have Hz := Lib.hid (Hi1.out.go pz.below)
      have Hz3 := Lib.hid (Hb3.out.trans (pz.below.mono Hb3.out.size))
      go_wp2
      go_roundw
      case rel => exact ⟨k + 1, by omega, by go_num, Hz.out, Hz3.out⟩
      case measure => simp [intOf]; omega
    · have hge : ¬ (k : Int) < (nt : Int) := by omega
      obtain ⟨q, hq⟩ : ∃ q, q = bestTo M N.trans nt := ⟨_, rfl⟩
      have d0 := hin.c0
      have x0 := fun p : NewBy v1 => NewBy.cell (o := 0) hsz d0 p
      have x1 := fun p : NewBy v1 => NewBy.cell (o := 1) hsz d1 p
      have hN1 := Hna.out.below hin.old
      have hM1 := Hom.out.below hb3
      have Hm1 : Hid (∀ p : NewBy v1, Calls Try.prog 18 #[.agg #[.slice a1 np c1, .slice a2 nt c2], .slice am np cm] p.to fun e w' => e = .returned (.int .i64 q) ∧ Below p.to.heap.size p.to w') :=
        Lib.hid (fun p => best_any Hnt.out Hml.out (hN1.below p.below) (hM1.below p.below) Hfit2.out q hq)
      have Hm2 : Hid (∀ p : NewBy v1, Calls Try.prog 19 #[.agg #[.slice a1 np c1, .slice a2 nt c2], .slice am np cm] p.to fun e w' => e = .returned (.int .i64 q) ∧ Below p.to.heap.size p.to w') :=
        Lib.hid (fun p => rbest_any Hnt.out Hml.out (hN1.below p.below) (hM1.below p.below) Hfit2.out q hq)
      clear hN1 hM1 hb3 hin hq
      go_wp2
      refine wp_region_new (by kernel_rfl) (by kernel_rfl) ?_
      repeat (go_big_quiet_step (first | (go_at_call 19; exact Calls.new_of (Hm2.out _)) | (go_at_call 18; exact Calls.new_of (Hm1.out _))))
      refine wpQuiet_nil ?_
      intro wz hzz
      obtain ⟨pz, hzz⟩ := hzz
      subst hzz
      have Hz := Lib.hid (Hi1.out.go pz.below)
      go_wp2
      go_ret
      exact ⟨rfl, HW.out.trans (Hz.out.old.mono HW.out.size)⟩
end Go.Proofs.Ytpllpofoclijlaa
