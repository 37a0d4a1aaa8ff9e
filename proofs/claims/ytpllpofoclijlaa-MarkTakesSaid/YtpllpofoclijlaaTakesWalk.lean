/-
  The walk of the law MarkTakes: for every draft, every list and both numbers it returns true.
  Conditions: none beyond each theorem's own.
-/
import Derived.Test.YtpllpofoclijlaaMaysWalk
import Derived.Deep.RegionLaw
import Derived.Deep.RegionHeld3
import Derived.Test.YtpllpofoclijlaaTwo
namespace Go.Proofs.Ytpllpofoclijlaa
open Go.RowKit
set_option linter.unusedVariables false

theorem bcell8 {w w' : World} {b o : Nat} {v : Value} (hc : w.cell? ⟨b, o, none⟩ = some v) (hl : b < w.heap.size) (h : Below w.heap.size w w') : w'.cell? ⟨b, o, none⟩ = some v := (h.cell (p := ⟨b, o, none⟩) hl).trans hc

set_option maxRecDepth 100000 in
set_option maxHeartbeats 8000000 in
theorem takes_small {w : World} {aT aA al : Option Addr} {cTok cA nl cl : Nat} {ts : List Nat} {acs : List Ac} {zs : List Int} (h : DraftAt w (.slice aT ts.length cTok) (.slice aA acs.length cA) ts acs) (hl : IntsAt w (.slice al nl cl) zs) (hnl : nl = zs.length) (h60 : ts.length ≤ 60) (h12 : acs.length ≤ 12) (h20 : nl ≤ 20) (A K : Nat) (hA : A < 256) (hK : K < 256) :
    Calls Try.prog 5 #[.agg #[.slice aT ts.length cTok, .slice aA acs.length cA], .slice al nl cl, .int .u8 (A : Int), .int .u8 (K : Int)] w fun e w' => e = .returned (.bool true) ∧ Below w.heap.size w w' := by
  have Hmake : Hid (∀ W : World, Below w.heap.size w W → Calls Try.prog 10 #[.agg #[.slice aT ts.length cTok, .slice aA acs.length cA]] W fun e w' => ∃ vp vt, e = .returned (.agg #[vp, vt]) ∧ NetOwn W.heap.size w' vp vt (makeN ts acs) ∧ Below W.heap.size W w') := Lib.hid (fun W hW => make_any (h.below hW))
  have Hfit : Hid (∀ m : List Int, m.length = (makeN ts acs).places.length → FitsN m (makeN ts acs)) := Lib.hid (fun m hm => makeN_fits h.ok hm)
  have Hinn : Hid (∀ (i : Nat) (t : Tr), (makeN ts acs).trans[i]? = some t → 1 ≤ t.inn.length) := Lib.hid (fun i t ht => by
    unfold makeN trsOf at ht
    rw [List.getElem?_map] at ht
    obtain ⟨k, _, rfl⟩ := Option.map_eq_some_iff.1 ht
    exact innOf_pos _ _)
  have Hpos : Hid (1 ≤ (makeN ts acs).places.length) := Lib.hid (by
    have e : (makeN ts acs).places.length = cntP ts := plsOf_len _ _
    rw [e]; exact (cntP_bd ts).1)
  have Hsz : Hid ((makeN ts acs).places.length ≤ 7) := Lib.hid (by
    have e : (makeN ts acs).places.length = cntP ts := plsOf_len _ _
    rw [e]; exact (cntP_bd ts).2)
  have Hlist : Hid (∀ W : World, Below w.heap.size w W → IntsAt W (.slice al nl cl) zs) := Lib.hid (fun W hW => hl.below hW)
  have Hnl := Lib.hid hnl
  obtain ⟨N, hN⟩ : ∃ N, N = makeN ts acs := ⟨_, rfl⟩
  rw [← hN] at Hmake Hfit Hsz Hinn Hpos
  obtain ⟨nT, hnT⟩ : ∃ k, k = ts.length := ⟨_, rfl⟩
  obtain ⟨nA, hnA⟩ : ∃ k, k = acs.length := ⟨_, rfl⟩
  rw [← hnT, ← hnA] at Hmake ⊢
  have h60i : ¬ (60 : Int) < (nT : Int) := by omega
  have h60b : decide ((60 : Int) < (nT : Int)) = false := decide_eq_false h60i
  have h60c : decide (60 < nT) = false := decide_eq_false (by omega)
  have h12i : ¬ (12 : Int) < (nA : Int) := by omega
  have h12b : decide ((12 : Int) < (nA : Int)) = false := decide_eq_false h12i
  have h12c : decide (12 < nA) = false := decide_eq_false (by omega)
  have h20i : ¬ (20 : Int) < (nl : Int) := by omega
  have h20b : decide ((20 : Int) < (nl : Int)) = false := decide_eq_false h20i
  have h20c : decide (20 < nl) = false := decide_eq_false (by omega)
  have hAi : (A : Int) < 256 := by omega
  have hKi : (K : Int) < 256 := by omega
  have hA0 : 0 ≤ (A : Int) := by omega
  have hK0 : 0 ≤ (K : Int) := by omega
  clear h hl hnl hnT hnA h60 h12 h20 hN
  go_enter Try.func5, Try.ntmps5
  go_wp2_with fail
  refine (awake8_any _).mono ?_
  rintro e w1 ⟨rfl, hb⟩
  have hi := (InBx.start 25 w (.slice aT nT cTok) (.slice aA nA cA)).go hb
  have b0 := hi.c0
  have b1 := hi.c1
  have Hi := Lib.hid hi
  clear hb hi
  go_wp2_with fail
  refine (Hmake.out _ Hi.out.old).mono ?_
  rintro e w2 ⟨vp, vt, rfl, hno, hb2⟩
  have hna := hno.at_
  obtain ⟨a1, np, c1, a2, nt, c2, rfl, rfl, hnp, hnt⟩ := hna.form2
  have HW : Hid (Below w.heap.size w w2) := Lib.hid (Hi.out.go hb2).old
  have Hna := Lib.hid hna
  have Hnp := Lib.hid hnp
  have Hnt := Lib.hid hnt
  have hnp7 : np ≤ 7 := by rw [hnp]; exact Hsz.out
  have hnp1 : 1 ≤ np := by rw [hnp]; exact Hpos.out
  have hmax : nt ≤ 9223372036854775807 := by
    obtain ⟨_, l, hl, ht⟩ := Hna.out
    have := RowAt.max ht.1
    rw [Hnt.out, ← hl, List.length_map]; exact this
  have hnew : Below w2.heap.size w2 (w2.alloc (.cells #[.slice a1 np c1, .slice a2 nt c2] 30)) := (Below.refl _ _).alloc (Nat.le_refl _) _
  have Hfirst := Lib.hid (first_any (vt := .slice a2 nt c2) hnp (by omega) (hna.1.below hnew))
  clear hno hb2 b0 b1 hna hnp hnt hnew Hmake Hi Hsz Hpos
  go_wp2_with fail
  refine Hfirst.out.mono ?_
  rintro e w3 ⟨bf, rfl, hof, hb3⟩
  have Hof := Lib.hid hof
  have hin := (InBox.start w2 (.slice a1 np c1) (.slice a2 nt c2)).go hb3
  have Hin := Lib.hid hin
  have d0 := hin.c0
  have d1 := hin.c1
  clear hof hb3 hin Hfirst
  go_wp2
  clear d0 d1
  go_loopw [11] (fun i wr => ∃ k : Nat, k ≤ np ∧ i = .int .i64 k ∧ InBox w2 wr (.slice a1 np c1) (.slice a2 nt c2) ∧ Below w3.heap.size w3 wr) (fun i _ => np - (intOf i).toNat)
  case atStart => exact ⟨0, by omega, rfl, Hin.out, Below.refl _ _⟩
  case round =>
    rename World => v1
    obtain ⟨k, hk, rfl, hin, hb3⟩ := hrel
    have d0 := hin.c0
    have d1 := hin.c1
    by_cases hlt : k < np
    · have hlti : (k : Int) < (np : Int) := by omega
      obtain ⟨x, hx⟩ := at_lt (l := N.places) (k := k) (by rw [← Hnp.out]; exact hlt)
      obtain ⟨bp, op, rfl, hbw, e0, e1⟩ := (Hna.out.1.below hin.old).at_ hx
      have cf := (Hof.out.below hb3).cell (k := k) (z := x.tok) (by rw [List.getElem?_map, hx]; rfl)
      have Hin1 := Lib.hid (fun q => hin.go (drewNb v1 q))
      have Hb3 := Lib.hid (fun q => hb3.trans ((drewNb v1 q).mono hb3.size))
      clear hx hin hb3
      go_wp2
      go_quiet (fail)
      go_wp2
      go_roundw
      case rel => exact ⟨k + 1, by omega, by go_num, Hin1.out _, Hb3.out _⟩
      case measure => simp [intOf]; omega
    · have hge : ¬ (k : Int) < (np : Int) := by omega
      have Hin1 := Lib.hid hin
      have HB1 : Hid (Below w.heap.size w v1) := Lib.hid (HW.out.trans (hin.old.mono HW.out.size))
      have Hmk := Lib.hid (marks_any (ap := a1) (cp := c1) (vt := .slice a2 nt c2) (np := np) (by omega) Hnl.out (Hlist.out v1 HB1.out))
      clear hin hb3 Hlist Hnl
      go_wp2_with fail
      refine Hmk.out.mono ?_
      rintro e w4 ⟨vm, rfl, hom, hb4⟩
      obtain ⟨bm, cm, em⟩ := hom.form (by rw [marksTo_len]; omega)
      rw [marksTo_len] at em
      subst em
      have hbd : ∀ (i : Nat) (z : Int), (marksTo zs np)[i]? = some z → 0 ≤ z ∧ z < 6 := by
        intro i z h
        unfold marksTo at h
        rw [List.getElem?_map] at h
        obtain ⟨j, _, rfl⟩ := Option.map_eq_some_iff.1 h
        exact markAt_bd _ _
      have hML := marksTo_len zs np
      revert hom hbd hML
      generalize marksTo zs np = M
      intro hom hbd hML
      obtain ⟨vw, w5, hr, how, hb5⟩ := run_clone_ints 42 hom.at_ (by omega)
      obtain ⟨bw, cw, ew⟩ := how.form (by omega)
      rw [hML] at ew
      subst ew
      have hom5 := hom.below hb5
      have hne : bm ≠ bw := by have h1 := hom.lt.2; have h2 := how.lt.1; omega
      obtain ⟨p, hp⟩ : ∃ p, p = A % np := ⟨_, rfl⟩
      have hpl : p < np := by rw [hp]; exact Nat.mod_lt _ (by omega)
      have hpi : (A : Int) % (np : Int) = (p : Int) := by rw [hp]; rfl
      have hpli : (p : Int) < (np : Int) := by omega
      have hnp0 : ¬ np = 0 := by omega
      obtain ⟨z, hz⟩ := at_lt (l := M) (k := p) (by omega)
      have hz5 := hbd p z hz
      have HML : Hid (np = M.length) := Lib.hid hML.symm
      have Hz := Lib.hid hz
      have Hbm : Hid (v1.heap.size ≤ bm) := Lib.hid hom.lt.1
      have Hom := Lib.hid hom5
      have How := Lib.hid how
      have Hb5 := Lib.hid (hb4.trans (hb5.mono hb4.size))
      have Hput : Hid (∀ q, Calls Try.prog 21 #[.slice (some ⟨bm, 0, none⟩) np cm, .int .i64 p, .int .i64 (K : Int)] (w5.drewN q) fun e w' => e = .returned (.bool true) ∧ OwnI v1.heap.size w' (.slice (some ⟨bm, 0, none⟩) np cm) (M.set p (z + K)) ∧ Kept (fun k => k = bm) (w5.drewN q) w') :=
        Lib.hid (fun q => mput_any HML.out (hom5.below (drewNb w5 q)) hz (by omega) (by omega) (by omega) true (by symm; apply decide_eq_true; omega))
      have Hw1 : Hid (IntKind.i64.wrap (z + IntKind.i64.wrap (K : Int)) = z + (K : Int)) := Lib.hid (by rw [IntWalk.i64_left, IntWalk.i64_left, IntWalk.wrap64_in (K : Int) (by omega), IntWalk.wrap64_in _ (by omega)])
      clear hom hb4 hb5 hom5 how hbd hML hp hz Hmk
      go_wp2_with (at_builtin; refine wpList_append_eq rfl (.const (.slice none 0 0)) (.tmp 70) 42 rfl rfl rfl hr ?_)
      rw [hpi]
      clear hpi hr
      refine wp_region_head_at 7 (by kernel_rfl) (by kernel_rfl) (by kernel_rfl) (by kernel_rfl) (by kernel_rfl) ?_
      simp only [List.take, List.drop]
      go_wp2_with fail
      refine (Hput.out 1).mono ?_
      rintro e w6 ⟨rfl, ho6, hk6⟩
      have c6 := ho6.cell (k := p) (z := z + K) (List.getElem?_set_self (lt_at Hz.out))
      have HoW := Lib.hid ((How.out.below (drewNb w5 1)).kept hk6 (fun r e1 e2 => hne ((show r = bm from e2).symm.trans (Option.some.inj e1).symm)))
      have cw6 := HoW.out.cell Hz.out
      have Ho6 := Lib.hid ho6
      have Hk6 := Lib.hid hk6
      clear ho6 hk6
      go_wp2_with fail
      repeat (go_big_quiet_step (fail))
      refine wpQuiet_nil ?_
      rintro w7 ⟨n7, rfl⟩
      have f6 := Ho6.out.froz p
      have hlt6 := Ho6.out.lt.2
      go_wp2_with fail
      have hp7 : p < (M.set p (z + K)).length := by rw [List.length_set, ← HML.out]; exact hpl
      have h8 := (Ho6.out.below (drewNb w6 n7)).set p (1099511627776 - (K : Int)) hp7
      have hz8 : ((M.set p (z + K)).set p (1099511627776 - (K : Int)))[p]? = some (1099511627776 - (K : Int)) := List.getElem?_set_self hp7
      have hm8 : np = ((M.set p (z + K)).set p (1099511627776 - (K : Int))).length := by rw [List.length_set, List.length_set]; exact HML.out
      have HoW8 := Lib.hid ((HoW.out.below (drewNb w6 n7)).kept h8.2 (fun r e1 e2 => hne ((show r = bm from e2).symm.trans (Option.some.inj e1).symm)))
      have Hb8 : Hid (Below v1.heap.size v1 ((w6.drewN n7).setCell ⟨bm, p, none⟩ (.int .i64 (1099511627776 - (K : Int))))) := Lib.hid (by
        have h1 := Hb5.out.trans ((drewNb w5 1).mono Hb5.out.size)
        have h2 := h1.trans (Hk6.out.below (B := v1.heap.size) (fun k e => by have := Hbm.out; omega) h1.size)
        have h3 := h2.trans ((drewNb w6 n7).mono h2.size)
        exact h3.trans (h8.2.below (B := v1.heap.size) (fun k e => by have := Hbm.out; omega) h3.size))
      refine (mput_any hm8 h8.1 hz8 (by omega) (by omega) (by omega) true (by symm; apply decide_eq_true; omega)).mono ?_
      rintro e w9 ⟨rfl, ho9, hk9⟩
      have hp9 : p < ((M.set p (z + K)).set p (1099511627776 - (K : Int))).length := by rw [← hm8]; exact hpl
      have Hz9 := Lib.hid (List.getElem?_set_self (a := 1099511627776 - (K : Int) + (K : Int)) hp9)
      have HoW9 := Lib.hid (HoW8.out.kept hk9 (fun r e1 e2 => hne ((show r = bm from e2).symm.trans (Option.some.inj e1).symm)))
      have Hb9 := Lib.hid (Hb8.out.trans (hk9.below (B := v1.heap.size) (fun k e => by have := Hbm.out; omega) Hb8.out.size))
      have Ho9 := Lib.hid ho9
      have Hm9 := Lib.hid hm8
      clear h8 hz8 ho9 hk9 hm8 hp7 hp9 c6 cw6 f6 hlt6 HoW8 Hb8 Hk6 Ho6 HoW Hput How Hom
      go_wp2_with fail
      refine (mput_any (by rw [List.length_set]; exact Hm9.out) Ho9.out Hz9.out (by omega) (by omega) (by omega) false (by symm; apply decide_eq_false; omega)).mono ?_
      rintro e w10 ⟨rfl, ho10, hk10⟩
      have HoW := Lib.hid (HoW9.out.kept hk10 (fun r e1 e2 => hne ((show r = bm from e2).symm.trans (Option.some.inj e1).symm)))
      have Hb := Lib.hid (Hb9.out.trans (hk10.below (B := v1.heap.size) (fun k e => by have := Hbm.out; omega) Hb9.out.size))
      clear ho10 hk10 HoW9 Ho9 Hz9 Hm9 Hb9 Hb5
      have hi10 := Hin1.out.go Hb.out
      have x0 := hi10.c0
      have x1 := hi10.c1
      have Hi10 := Lib.hid hi10
      clear hi10 d0 d1
      by_cases hnt0 : nt = 0
      · have hnti : ((nt : Int) == 0) = true := by simp; omega
        go_wp2
        go_ret
        exact ⟨rfl, HW.out.trans (Hi10.out.old.mono HW.out.size)⟩
      · have hnti : ((nt : Int) == 0) = false := by simp; omega
        have hnt1 : 0 < nt := by omega
        obtain ⟨i, hi⟩ : ∃ i, i = K % nt := ⟨_, rfl⟩
        have hil : i < nt := by rw [hi]; exact Nat.mod_lt _ hnt1
        have hki : (K : Int) % (nt : Int) = (i : Int) := by rw [hi]; rfl
        have hili : (i : Int) < (nt : Int) := by omega
        have hkw : (IntKind.i64.wrap (K : Int)).tmod (nt : Int) = (i : Int) := by rw [IntWalk.i64_left, IntWalk.wrap64_in _ (by omega), Int.tmod_eq_emod_of_nonneg hK0]; exact hki
        have hsz10 := Hi10.out.size
        obtain ⟨t, htr⟩ := at_lt (l := N.trans) (k := i) (by rw [← Hnt.out]; exact hil)
        obtain ⟨_, lt, hl, ht⟩ := Hna.out
        obtain ⟨b, off, ai, ci, aj, cj, ao, co, rfl, hbw, e0, e1, e2, e3, e4, e5, hI, _, _⟩ := (ht.below Hi10.out.old).at_ (i := i) (t := t) (by rw [hl]; exact htr)
        have HI := Lib.hid hI
        have Htr := Lib.hid htr
        obtain ⟨n1, hn1⟩ : ∃ n, n = t.inn.length := ⟨_, rfl⟩
        obtain ⟨n2, hn2⟩ : ∃ n, n = t.nt.length := ⟨_, rfl⟩
        obtain ⟨n3, hn3⟩ : ∃ n, n = t.out.length := ⟨_, rfl⟩
        rw [← hn1] at e3 HI
        rw [← hn2] at e4
        rw [← hn3] at e5
        have Hn1 := Lib.hid hn1
        clear hi ht hl htr hI hn1 hn2 hn3 hki
        go_wp2_with fail
        have hszA : w2.heap.size ≤ w10.heap.size := Nat.le_of_lt hsz10
        have hbA : b ≤ w10.heap.size := Nat.le_of_lt hbw
        have hszB : w2.heap.size < w10.heap.size + 1 := by omega
        have hbB : b < w10.heap.size + 1 := by omega
        go_region_held3 (fun w' => w2.heap.size < w'.heap.size ∧ b < w'.heap.size ∧ w'.cell? ⟨w2.heap.size, 1, none⟩ = some (.slice (some ⟨b, off, none⟩) nt c2) ∧ w'.cell? ⟨b, off + i * 6, none⟩ = some (.string t.name) ∧ w'.cell? ⟨b, off + i * 6 + 1, none⟩ = some (.int .i64 t.delay) ∧ w'.cell? ⟨b, off + i * 6 + 2, none⟩ = some (.int .i64 t.prio) ∧ w'.cell? ⟨b, off + i * 6 + 3, none⟩ = some (.slice ai n1 ci) ∧ w'.cell? ⟨b, off + i * 6 + 4, none⟩ = some (.slice aj n2 cj) ∧ w'.cell? ⟨b, off + i * 6 + 5, none⟩ = some (.slice ao n3 co)) (first | go_keep | exact ⟨hsz10, hbw, x1, e0, e1, e2, e3, e4, e5⟩ | (refine ⟨by simp; omega, by simp; omega, ?_, ?_, ?_, ?_, ?_, ?_, ?_⟩ <;> go_keep)) (first | fail)
        have hb11 : Below w10.heap.size w10 (w10.alloc (.cells #[.string t.name, .int .i64 t.delay, .int .i64 t.prio, .slice ai n1 ci, .slice aj n2 cj, .slice ao n3 co] 40)).drew := ((Below.refl _ _).alloc (Nat.le_refl _) _).drew
        have hbx := boxRow.new 0 w10 40 #[.string t.name, .int .i64 t.delay, .int .i64 t.prio, .slice ai n1 ci, .slice aj n2 cj, .slice ao n3 co] (Nat.zero_le _)
        have hbx2 : (boxRow w10.heap.size 40 [.string t.name, .int .i64 t.delay, .int .i64 t.prio, .slice ai n1 ci, .slice aj n2 cj, .slice ao n3 co]).own 0 (w10.alloc (.cells #[.string t.name, .int .i64 t.delay, .int .i64 t.prio, .slice ai n1 ci, .slice aj n2 cj, .slice ao n3 co] 40)).drew := ownS (S := fun _ => False) hbx (Kept.of_below (Below.refl _ _).drew) (fun _ _ e => e)
        have hdrop := True.intro
        clear e0 e1 e2 e3 e4 e5 x0 x1 hsz10 hszA hbA hszB hbB hbx hbw hdrop hkw
        revert hb11 hbx2
        generalize (w10.alloc (.cells #[.string t.name, .int .i64 t.delay, .int .i64 t.prio, .slice ai n1 ci, .slice aj n2 cj, .slice ao n3 co] 40)).drew = W11
        intro hb11 hbx2
        obtain ⟨bt, hbt⟩ : ∃ b, b = w10.heap.size := ⟨_, rfl⟩
        rw [← hbt] at hbx2 ⊢
        have HoW11 := Lib.hid (HoW.out.below hb11)
        obtain ⟨vx, w12, hr, hox, hb12⟩ := run_clone_ints 42 HoW11.out.at_ (by rw [← HML.out]; omega)
        obtain ⟨bx, cx, ex⟩ := hox.form (by rw [← HML.out]; omega)
        rw [← HML.out] at ex
        subst ex
        have hbx3 := ownS (S := fun _ => False) hbx2 (Kept.of_below hb12) (fun _ _ e => e)
        have x0 := boxRow.cell hbx3 (j := 0) rfl
        have x1 := boxRow.cell hbx3 (j := 1) rfl
        have x2 := boxRow.cell hbx3 (j := 2) rfl
        have x3 := boxRow.cell hbx3 (j := 3) rfl
        have x4 := boxRow.cell hbx3 (j := 4) rfl
        have x5 := boxRow.cell hbx3 (j := 5) rfl
        have xlt := (boxRow.lt hbx3).2
        have hbx11 : W11.heap.size ≤ bx := hox.lt.1
        have hoff : OffBlock (.slice ai n1 ci) bx := OffBlock.of_at HI.out (by have := Hinn.out i t Htr.out; omega) (Nat.le_trans hb11.size hbx11)
        have hfit := (Hfit.out M (by rw [← HML.out]; exact Hnp.out) t (List.mem_of_getElem? Htr.out)).1
        have hI12 := HI.out.below (hb11.trans (hb12.mono hb11.size))
        have Htake := Lib.hid (take_any (s := t.name) (d := t.delay) (p := t.prio) (a2 := aj) (n2 := n2) (c2 := cj) (a3 := ao) (n3 := n3) (c3 := co) Hn1.out HML.out hI12 hoff hox hfit)
        have Hoff := Lib.hid hoff
        have Hfit1 := Lib.hid hfit
        have HI12 := Lib.hid hI12
        have hbw11 : bw < W11.heap.size := HoW11.out.lt.2
        have hbt11 : bt < W11.heap.size := (boxRow.lt hbx2).2
        have HoW12 := Lib.hid (HoW11.out.below hb12)
        have Hbx3 := Lib.hid hbx3
        have HB12 : Hid (Below w.heap.size w w12) := Lib.hid (by
          have h1 := HW.out.trans (Hi10.out.old.mono HW.out.size)
          have h2 := h1.trans (hb11.mono h1.size)
          exact h2.trans (hb12.mono h2.size))
        have Hw11 : Hid (w.heap.size ≤ bx) := Lib.hid (by
          have h1 := HW.out.trans (Hi10.out.old.mono HW.out.size)
          exact Nat.le_trans h1.size (Nat.le_trans hb11.size hbx11))
        clear hb11 hbx2 hox hb12 hbx3 hoff hfit hI12 hbt HoW HoW11
        go_wp2_with (at_builtin; refine wpList_append_eq rfl (.const (.slice none 0 0)) (.tmp 128) 42 rfl rfl rfl hr ?_)
        refine Htake.out.mono ?_
        rintro e w13 ⟨rfl, hox13, hk13⟩
        have HW13 := Lib.hid (HoW12.out.kept hk13 (fun r e1 e2 => by have e3 : bw = r := Option.some.inj e1; have e4 : r = bx := e2; omega))
        have hbx13 := ownS Hbx3.out hk13 (fun r e1 e2 => by have e3 : bt = r := Option.some.inj e1; have e4 : r = bx := e2; omega)
        have HI13 : Hid (ArcsAt w13 (.slice ai n1 ci) t.inn) := Lib.hid (RowAt.kept HI12.out hk13 (fun k hk => Hoff.out k hk))
        have HB13 := Lib.hid (HB12.out.trans (hk13.below (B := w.heap.size) (fun k e => by have := Hw11.out; omega) HB12.out.size))
        have Hox13 := Lib.hid hox13
        have x3' := boxRow.cell hbx13 (j := 3) rfl
        have xlt' := (boxRow.lt hbx13).2
        have hn1x : n1 ≤ 9223372036854775807 := by have := RowAt.max HI13.out; rw [← Hn1.out] at this; exact this
        have HX3 := Lib.hid (fun (W : World) (h : Below w13.heap.size w13 W) => bcell8 x3' xlt' h)
        clear hbx13 hox13 hk13 x0 x1 x2 x3 x4 x5 xlt x3' xlt' hr Htake HoW12 Hbx3 HI12 HB12 HI Hi10
        go_wp2
        go_loopw [17] (fun j wr => ∃ j' : Nat, j' ≤ np ∧ j = .int .i64 j' ∧ Below w13.heap.size w13 wr) (fun j _ => np - (intOf j).toNat)
        case atStart => exact ⟨0, by omega, rfl, Below.refl _ _⟩
        case round =>
          rename World => y1
          obtain ⟨j, hj, rfl, hb⟩ := hrel
          by_cases hlt2 : j < np
          · have hlti : (j : Int) < (np : Int) := by omega
            obtain ⟨z2, hz2⟩ := at_lt (l := M) (k := j) (by rw [← HML.out]; exact hlt2)
            have cw := (HW13.out.below hb).cell hz2
            have Hz2 := Lib.hid hz2
            have Hb1 := Lib.hid hb
            clear hz2 hb
            go_wp2
            clear cw
            go_loopw [18, 19] (fun y q wr => ∃ q' : Nat, q' ≤ n1 ∧ q = .int .i64 q' ∧ y = .int .i64 (wantTo t.inn j z2 q') ∧ Below w13.heap.size w13 wr) (fun _ q _ => n1 - (intOf q).toNat)
            case atStart => exact ⟨0, by omega, rfl, rfl, Hb1.out⟩
            case round =>
              rename World => y2
              obtain ⟨q, hq, rfl, rfl, hb⟩ := hrel
              have c3 := HX3.out _ hb
              by_cases hlt3 : q < n1
              · have hqi : (q : Int) < (n1 : Int) := by omega
                obtain ⟨⟨x, y⟩, hx⟩ := at_lt (l := t.inn) (k := q) (by rw [← Hn1.out]; exact hlt3)
                obtain ⟨ba, oa, rfl, hba, e0, e1⟩ := (HI13.out.below hb).at_ hx
                obtain ⟨pp, rfl, hpp, -⟩ := Hfit1.out.at_ hx
                have Hb2 := Lib.hid hb
                have hwant := wantTo_succ (i := j) (z := z2) hx
                obtain ⟨y0, hy0⟩ : ∃ y0, y0 = wantTo t.inn j z2 q := ⟨_, rfl⟩
                rw [← hy0] at hwant ⊢
                by_cases hpj : pp = j
                · subst hpj
                  have Hwant : Hid (wantTo t.inn pp z2 (q + 1) = wrap64 (y0 - y)) := Lib.hid (by rw [hwant]; simp)
                  have hbq : ((pp : Int) == (pp : Int)) = true := by simp
                  clear hwant hb hx hy0
                  go_wp2
                  go_roundw
                  case rel => exact ⟨q + 1, by omega, by go_num, by rw [Hwant.out], Hb2.out⟩
                  case measure => simp [intOf]; omega
                · have Hwant : Hid (wantTo t.inn j z2 (q + 1) = y0) := Lib.hid (by rw [hwant, if_neg (show ¬ ((pp : Int), y).1 = (j : Int) from fun e => hpj (by have e' : (pp : Int) = (j : Int) := e; omega))])
                  have hbq : ((pp : Int) == (j : Int)) = false := by simp; omega
                  have hpji : ¬ (pp : Int) = (j : Int) := by omega
                  clear hwant hb hx hy0
                  go_wp2
                  go_roundw
                  case rel => exact ⟨q + 1, by omega, by go_num, by rw [Hwant.out], Hb2.out⟩
                  case measure => simp [intOf]; omega
              · have hge3 : ¬ (q : Int) < (n1 : Int) := by omega
                have hcx : (takeL t.inn M)[j]? = some (wantTo t.inn j z2 q) := by
                  rw [← takeTo_all (k := q) (by rw [← Hn1.out]; omega)]
                  exact takeTo_get Hfit1.out Hz2.out q
                have cx := (Hox13.out.below hb).cell hcx
                have Hb2 := Lib.hid hb
                clear hcx hb
                go_wp2
                go_roundw
                case rel => exact ⟨j + 1, by omega, by go_num, Hb2.out⟩
                case measure => simp [intOf]; omega
          · have hge2 : ¬ (j : Int) < (np : Int) := by omega
            have Hb2 := Lib.hid hb
            clear hb
            go_wp2
            go_ret
            exact ⟨rfl, HB13.out.trans (Hb2.out.mono HB13.out.size)⟩
end Go.Proofs.Ytpllpofoclijlaa
