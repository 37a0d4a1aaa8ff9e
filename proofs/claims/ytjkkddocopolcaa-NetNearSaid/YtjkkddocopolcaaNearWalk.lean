/-
  The walk of the law NetNear: for every draft, and every one thing that is turned, it returns true.
  Conditions: none beyond each theorem's own.
-/
import Derived.Test.YtjkkddocopolcaaNearF
import Derived.Deep.QuietTactic
import Derived.BigQuiet
import Derived.Deep.RegionLaw
namespace Go.Proofs.Ytjkkddocopolcaa
open Go.RowKit
set_option linter.unusedVariables false

theorem nearStart {w w1 w2 : World} {vp vt : Value} {ts : List Nat} {acs : List Ac} (h0 : Below w.heap.size w w1) (h1 : NetOwn w1.heap.size w2 vp vt (makeN ts acs)) (h2 : Below w1.heap.size w1 w2) :
    ∃ ap cp at_ ct, vp = .slice ap (cntP ts) cp ∧ vt = .slice at_ (cntT acs) ct ∧ ∃ l, l.map (·.1) = trsOf (cntP ts) acs (cntT acs) ∧ InNear w (w2.alloc (.cells #[.slice ap (cntP ts) cp, .slice at_ (cntT acs) ct] 25)) w1.heap.size w2.heap.size ap (cntP ts) cp at_ (cntT acs) ct (plsOf ts (cntP ts)) l := by
  obtain ⟨l, hl, ha⟩ := h1
  have hlen : l.length = cntT acs := by have := congrArg List.length hl; rw [List.length_map] at this; rw [this]; exact trsOf_len _ _ _
  obtain ⟨ap, cp, e1⟩ := own_form (ha.own (plRow vp (plsOf ts (cntP ts))) (by simp [netRows, makeN]))
  obtain ⟨at_, ct, e2⟩ := own_form (ha.own (trRow vt l) (by simp [netRows]))
  have e1' : vp = .slice ap (cntP ts) cp := by have : (plRow vp (plsOf ts (cntP ts))).n = cntP ts := plsOf_len _ _; rw [this] at e1; exact e1
  have e2' : vt = .slice at_ (cntT acs) ct := by have : (trRow vt l).n = cntT acs := hlen; rw [this] at e2; exact e2
  subst e1' e2'
  refine ⟨ap, cp, at_, ct, rfl, rfl, l, hl, ?_, (plsOf_len _ _).symm, hlen.symm, ?_, ?_, (h0.trans (h2.mono h0.size)).alloc (Nat.le_trans h0.size h2.size) _, h0.size, by simp; exact Nat.le_trans h2.size (Nat.le_succ _)⟩
  · have h3 := ha.add ((Below.refl _ w2).alloc (Nat.le_refl _) (.cells #[.slice ap (cntP ts) cp, .slice at_ (cntT acs) ct] 25)) (boxRow.new w1.heap.size w2 25 #[.slice ap (cntP ts) cp, .slice at_ (cntT acs) ct] h2.size) (fun k e => by injection e with e; subst e; exact Nat.le_refl _)
    exact h3.perm (List.perm_append_singleton _ _)
  · intro p hp
    unfold plsOf at hp
    rw [List.mem_map] at hp
    obtain ⟨k, _, rfl⟩ := hp
    show (nameP k).data.size ≤ 1000; simp [nameP]
  · intro x hx
    have : x.1 ∈ trsOf (cntP ts) acs (cntT acs) := by have := List.mem_map_of_mem (f := (·.1)) hx; rw [hl] at this; exact this
    unfold trsOf at this
    rw [List.mem_map] at this
    obtain ⟨k, _, e⟩ := this
    rw [← e]
    show (nameT k).data.size ≤ 1000; simp [nameT]

set_option maxRecDepth 100000 in
set_option maxHeartbeats 8000000 in
theorem near_small {w : World} {aT aA : Option Addr} {cTok cA : Nat} {ts : List Nat} {acs : List Ac} (h : DraftAt w (.slice aT ts.length cTok) (.slice aA acs.length cA) ts acs) (how A : Nat) (hh : how < 256) (hA : A < 256) (n : Int) (s : ByteArray) (h60 : ts.length ≤ 60) (h12 : acs.length ≤ 12) (h30 : s.size ≤ 30) :
    Calls Try.prog 4 #[.agg #[.slice aT ts.length cTok, .slice aA acs.length cA], .int .u8 (how : Int), .int .u8 (A : Int), .int .i64 n, .string s] w fun e w' => e = .returned (.bool true) ∧ Below w.heap.size w w' := by
  have Hmake : Hid (∀ W : World, Below w.heap.size w W → Calls Try.prog 14 #[.agg #[.slice aT ts.length cTok, .slice aA acs.length cA]] W fun e w' => ∃ vp vt, e = .returned (.agg #[vp, vt]) ∧ NetOwn W.heap.size w' vp vt (makeN ts acs) ∧ Below W.heap.size W w') := Lib.hid (fun W hW => make_any (h.below hW))
  have Hchk : Hid (checkN (makeN ts acs) = 0) := Lib.hid (makeN_check h.ok)
  have hm := cntP_bd ts
  have hmt := cntT_bd acs
  have Hinn : Hid (∀ (i : Nat) (t : Tr), (trsOf (cntP ts) acs (cntT acs))[i]? = some t → 1 ≤ t.inn.length ∧ t.nt.length ≤ 2 ∧ t.out.length ≤ 2) := Lib.hid (fun i t ht => by
    unfold trsOf at ht
    rw [List.getElem?_map] at ht
    obtain ⟨k, _, rfl⟩ := Option.map_eq_some_iff.1 ht
    have ho := h.ok.at_ k
    exact ⟨innOf_pos _ _, (ntOf_fine hm.1 _ ho.2.2.2.2.1).len, (outOf_fine hm.1 _ ho.2.2.2.2.2.1).len⟩)
  obtain ⟨nT, hnT⟩ : ∃ k, k = ts.length := ⟨_, rfl⟩
  obtain ⟨nA, hnA⟩ : ∃ k, k = acs.length := ⟨_, rfl⟩
  rw [← hnT, ← hnA] at Hmake ⊢
  have h60i : ¬ (60 : Int) < (nT : Int) := by omega
  have h60b : decide ((60 : Int) < (nT : Int)) = false := decide_eq_false h60i
  have h60c : decide (60 < nT) = false := decide_eq_false (by omega)
  have h12i : ¬ (12 : Int) < (nA : Int) := by omega
  have h12b : decide ((12 : Int) < (nA : Int)) = false := decide_eq_false h12i
  have h12c : decide (12 < nA) = false := decide_eq_false (by omega)
  have h30i : ¬ (30 : Int) < (s.size : Int) := by omega
  have h30b : decide ((30 : Int) < (s.size : Int)) = false := decide_eq_false h30i
  have h30c : decide (30 < s.size) = false := decide_eq_false (by omega)
  clear h hnT hnA h60 h12
  go_enter Try.func4, Try.ntmps4
  go_wp2_with fail
  refine (awake_any _).mono ?_
  rintro e w1 ⟨rfl, hb⟩
  have hi := (InBx.start 34 w (.slice aT nT cTok) (.slice aA nA cA)).go hb
  have b0 := hi.c0
  have b1 := hi.c1
  have Hi := Lib.hid hi
  clear hb hi
  go_wp2_with fail
  refine (Hmake.out _ Hi.out.old).mono ?_
  rintro e w2 ⟨vp, vt, rfl, hno, hb2⟩
  obtain ⟨ap, cp, at_, ct, rfl, rfl, l, hl, hin⟩ := nearStart Hi.out.old hno hb2
  have hna := hno.at_
  clear hno hb2 b0 b1 Hmake h60b h60c h12b h12c h30b h30c
  have Hck := Lib.hid (check_at (np := cntP ts) (nt := cntT acs) (plsOf_len _ _).symm (trsOf_len _ _ _).symm (NetAt.below hna ((Below.refl _ _).alloc (Nat.le_refl _) (.cells #[.slice ap (cntP ts) cp, .slice at_ (cntT acs) ct] 25))) (by rw [makeN_names]; exact mkNames_size _ (by omega) _ (by omega)) Hchk.out)
  have Hl := Lib.hid hl
  have Hin := Lib.hid hin
  clear hna hl hin
  revert Hl Hin Hck Hinn hm hmt
  generalize cntP ts = np
  generalize cntT acs = nt
  generalize trsOf np acs nt = trs
  generalize plsOf ts np = ps
  intro hm hmt Hinn Hck Hl Hin
  go_wp2_with fail
  refine Hck.out.mono ?_
  rintro e w3 ⟨rfl, hb3⟩
  have hin3 := Hin.out.go hb3
  clear hb3
  have hp0 : ¬ np = 0 := by omega
  have hpp : 0 < np := by omega
  obtain ⟨i, hi⟩ : ∃ i, i = A % np := ⟨_, rfl⟩
  have hip : i < np := by rw [hi]; exact Nat.mod_lt _ hpp
  have hii : (A : Int) % (np : Int) = (i : Int) := by rw [hi]; rfl
  have hipi : (i : Int) < (np : Int) := by omega
  obtain ⟨r, p, rfl, hrB, hrW, hps, c0, c1, fz⟩ := hin3.place hip
  have m0 := hin3.fin.c0
  have m1 := hin3.fin.c1
  have hg := hin3.fin.lt
  have Hin3 := Lib.hid hin3
  have Hps := Lib.hid hps
  clear hin3 hps hi Hck Hin
  go_wp2
  go_quiet (fail)
  have Hin4 := Lib.hid (Hin3.out.go (W' := w3.drewN nq) ⟨rfl, rfl, rfl, Nat.le_refl _, fun _ _ => rfl⟩)
  clear Hin3 c0 c1 fz m0 m1 hg hrW
  generalize w3.drewN nq = w4 at Hin4 ⊢
  obtain ⟨r', p', he, hrB', hrW, hps', c0, c1, fz⟩ := Hin4.out.place hip
  injection he with he
  injection he with he _ _
  subst he
  have Hp' := Lib.hid hps'
  have m0 := Hin4.out.fin.c0
  have m1 := Hin4.out.fin.c1
  clear hps' hrB' Hps
  have hcase : (how : Int) % 10 = 0 ∨ (how : Int) % 10 = 1 ∨ (how : Int) % 10 = 2 ∨ (how : Int) % 10 = 3 ∨ (how : Int) % 10 = 4 ∨ (how : Int) % 10 = 5 ∨ (how : Int) % 10 = 6 ∨ (how : Int) % 10 = 7 ∨ (how : Int) % 10 = 8 ∨ (how : Int) % 10 = 9 := by omega
  rcases hcase with hz | hz | hz | hz | hz | hz | hz | hz | hz | hz
  · have hcz : 0 = 0 := rfl
    clear hcz
    have fz1 := fz (i * 2 + 1)
    have Hin5 := Lib.hid (Hin4.out.setPl (j := 1) (p' := ⟨p'.name, n⟩) (y := .int .i64 n) Hp'.out (by omega) rfl (Hin4.out.sp p' (List.mem_of_getElem? Hp'.out)))
    go_upto_region 14 with (fail)
    clear c0 c1 fz fz1 m0 m1 hrW Hin4
    generalize w4.setCell ⟨r, i * 2 + 1, none⟩ (.int .i64 n) = w5 at Hin5 ⊢
    have m0 := Hin5.out.fin.c0
    have m1 := Hin5.out.fin.c1
    have hg5 := Hin5.out.fin.lt
    by_cases ht0 : nt = 0
    · have ht0i : ¬ (0 : Int) < (nt : Int) := by omega
      have ht0n : ¬ 0 < nt := by omega
      have ht0b : decide (0 < nt) = false := decide_eq_false ht0n
      clear ht0
      go_upto_region 32 with (fail)
      clear m0 m1 hg5
      obtain ⟨ev, q1, q2⟩ := Hin5.out.fin.calls
      have Q1 := Lib.hid (fun p : NewBy w5 => q1 p.to p.below)
      have Q2 := Lib.hid (fun p : NewBy w5 => q2 p.to p.below)
      have Hbel := Lib.hid Hin5.out.below
      have hg := Hin5.out.fin.lt
      have n0 := fun p : NewBy w5 => NewBy.cell (o := 0) hg Hin5.out.fin.c0 p
      have n1 := fun p : NewBy w5 => NewBy.cell (o := 1) hg Hin5.out.fin.c1 p
      clear q1 q2
      go_wp2
      clear hii hz
      try clear hki
      refine wp_region_new (by kernel_rfl) (by kernel_rfl) ?_
      repeat (go_big_quiet_step (first | (go_at_call 12; exact Calls.new_of (Q1.out _)) | (go_at_call 13; exact Calls.new_of (Q2.out _))))
      refine wpQuiet_nil ?_
      intro wz hzz
      obtain ⟨pz, hzz⟩ := hzz
      subst hzz
      go_wp2
      go_ret
      exact ⟨by simp, Hbel.out.trans (pz.below.mono Hbel.out.size)⟩
    · have htp : 0 < nt := by omega
      have htpi : (0 : Int) < (nt : Int) := by omega
      obtain ⟨k, hk⟩ : ∃ k, k = A % nt := ⟨_, rfl⟩
      have hkt : k < nt := by rw [hk]; exact Nat.mod_lt _ htp
      have hki : (A : Int) % (nt : Int) = (k : Int) := by rw [hk]; rfl
      have hkti : (k : Int) < (nt : Int) := by omega
      clear hk
      obtain ⟨rt, t0, v10, v20, v30, hat, _⟩ := Hin5.out.trans hkt
      subst hat
      go_wp2
      go_quiet (fail)
      have Hin6 := Lib.hid (Hin5.out.go (W' := w5.drewN nq) ⟨rfl, rfl, rfl, Nat.le_refl _, fun _ _ => rfl⟩)
      clear Hin5 m0 m1 hg5
      generalize w5.drewN nq = w6 at Hin6 ⊢
      obtain ⟨rt', t, v1, v2, v3, hat, hrtB, hrtW, hlt, e0, e1, e2, e3, e4, e5, fz, g1, g2, g3⟩ := Hin6.out.trans hkt
      injection hat with hat
      injection hat with hat _ _
      subst hat
      obtain ⟨htl, htn, hto⟩ := Hinn.out k t (by rw [← Hl.out, List.getElem?_map, hlt]; rfl)
      obtain ⟨⟨ax, ay⟩, hax⟩ := at_lt (l := t.inn) (k := 0) (by omega)
      rcases g1.2 with ⟨_, h0⟩ | ⟨rb, cb, cur, hv1, hrbB, hrb, _⟩
      · omega
      subst hv1
      obtain ⟨b', off', hbe, hrbW, a0, a1⟩ := ArcsAt.at_ (OwnA.at_ g1) hax
      injection hbe with hbe
      injection hbe with hbe1 hbe2 _
      subst hbe1 hbe2
      simp only [Nat.zero_mul, Nat.zero_add] at a0 a1
      have fza : ∀ j, w6.frozen? ⟨rb, j, none⟩ = false := fun j => World.ownsRow.frozenAt g1 j
      obtain ⟨ln, hln⟩ : ∃ ln, ln = t.inn.length := ⟨_, rfl⟩
      have hlnp : 0 < ln := by omega
      have Hlt := Lib.hid hlt
      have Hax := Lib.hid hax
      have G2 := Lib.hid g2
      have G3 := Lib.hid g3
      rw [← hln] at e3 Hlt
      have Hln := Lib.hid hln
      obtain ⟨av2, nv2, cv2, hv2⟩ := own_form3 g2
      obtain ⟨av3, nv3, cv3, hv3⟩ := own_form3 g3
      subst hv2 hv3
      clear hlt hax g1 g2 g3 hln hrb
      go_upto_region 32 with (fail)
      clear e0 e1 e2 e3 e4 e5 fz a0 a1 fza hrtW hrbW
      obtain ⟨ev, q1, q2⟩ := Hin6.out.fin.calls
      have Q1 := Lib.hid (fun p : NewBy w6 => q1 p.to p.below)
      have Q2 := Lib.hid (fun p : NewBy w6 => q2 p.to p.below)
      have Hbel := Lib.hid Hin6.out.below
      have hg := Hin6.out.fin.lt
      have n0 := fun p : NewBy w6 => NewBy.cell (o := 0) hg Hin6.out.fin.c0 p
      have n1 := fun p : NewBy w6 => NewBy.cell (o := 1) hg Hin6.out.fin.c1 p
      clear q1 q2
      go_wp2
      clear hii hz
      try clear hki
      refine wp_region_new (by kernel_rfl) (by kernel_rfl) ?_
      repeat (go_big_quiet_step (first | (go_at_call 12; exact Calls.new_of (Q1.out _)) | (go_at_call 13; exact Calls.new_of (Q2.out _))))
      refine wpQuiet_nil ?_
      intro wz hzz
      obtain ⟨pz, hzz⟩ := hzz
      subst hzz
      go_wp2
      go_ret
      exact ⟨by simp, Hbel.out.trans (pz.below.mono Hbel.out.size)⟩
  · have hcz : 1 = 1 := rfl
    clear hcz
    have fz1 := fz (i * 2)
    have Hin5 := Lib.hid (Hin4.out.setPl (j := 0) (p' := ⟨s, p'.tok⟩) (y := .string s) Hp'.out (by omega) rfl (by show s.size ≤ 1000; omega))
    go_upto_region 14 with (fail)
    clear c0 c1 fz fz1 m0 m1 hrW Hin4
    simp only [Nat.add_zero] at Hin5
    generalize w4.setCell ⟨r, i * 2, none⟩ (.string s) = w5 at Hin5 ⊢
    have m0 := Hin5.out.fin.c0
    have m1 := Hin5.out.fin.c1
    have hg5 := Hin5.out.fin.lt
    by_cases ht0 : nt = 0
    · have ht0i : ¬ (0 : Int) < (nt : Int) := by omega
      have ht0n : ¬ 0 < nt := by omega
      have ht0b : decide (0 < nt) = false := decide_eq_false ht0n
      clear ht0
      go_upto_region 32 with (fail)
      clear m0 m1 hg5
      obtain ⟨ev, q1, q2⟩ := Hin5.out.fin.calls
      have Q1 := Lib.hid (fun p : NewBy w5 => q1 p.to p.below)
      have Q2 := Lib.hid (fun p : NewBy w5 => q2 p.to p.below)
      have Hbel := Lib.hid Hin5.out.below
      have hg := Hin5.out.fin.lt
      have n0 := fun p : NewBy w5 => NewBy.cell (o := 0) hg Hin5.out.fin.c0 p
      have n1 := fun p : NewBy w5 => NewBy.cell (o := 1) hg Hin5.out.fin.c1 p
      clear q1 q2
      go_wp2
      clear hii hz
      try clear hki
      refine wp_region_new (by kernel_rfl) (by kernel_rfl) ?_
      repeat (go_big_quiet_step (first | (go_at_call 12; exact Calls.new_of (Q1.out _)) | (go_at_call 13; exact Calls.new_of (Q2.out _))))
      refine wpQuiet_nil ?_
      intro wz hzz
      obtain ⟨pz, hzz⟩ := hzz
      subst hzz
      go_wp2
      go_ret
      exact ⟨by simp, Hbel.out.trans (pz.below.mono Hbel.out.size)⟩
    · have htp : 0 < nt := by omega
      have htpi : (0 : Int) < (nt : Int) := by omega
      obtain ⟨k, hk⟩ : ∃ k, k = A % nt := ⟨_, rfl⟩
      have hkt : k < nt := by rw [hk]; exact Nat.mod_lt _ htp
      have hki : (A : Int) % (nt : Int) = (k : Int) := by rw [hk]; rfl
      have hkti : (k : Int) < (nt : Int) := by omega
      clear hk
      obtain ⟨rt, t0, v10, v20, v30, hat, _⟩ := Hin5.out.trans hkt
      subst hat
      go_wp2
      go_quiet (fail)
      have Hin6 := Lib.hid (Hin5.out.go (W' := w5.drewN nq) ⟨rfl, rfl, rfl, Nat.le_refl _, fun _ _ => rfl⟩)
      clear Hin5 m0 m1 hg5
      generalize w5.drewN nq = w6 at Hin6 ⊢
      obtain ⟨rt', t, v1, v2, v3, hat, hrtB, hrtW, hlt, e0, e1, e2, e3, e4, e5, fz, g1, g2, g3⟩ := Hin6.out.trans hkt
      injection hat with hat
      injection hat with hat _ _
      subst hat
      obtain ⟨htl, htn, hto⟩ := Hinn.out k t (by rw [← Hl.out, List.getElem?_map, hlt]; rfl)
      obtain ⟨⟨ax, ay⟩, hax⟩ := at_lt (l := t.inn) (k := 0) (by omega)
      rcases g1.2 with ⟨_, h0⟩ | ⟨rb, cb, cur, hv1, hrbB, hrb, _⟩
      · omega
      subst hv1
      obtain ⟨b', off', hbe, hrbW, a0, a1⟩ := ArcsAt.at_ (OwnA.at_ g1) hax
      injection hbe with hbe
      injection hbe with hbe1 hbe2 _
      subst hbe1 hbe2
      simp only [Nat.zero_mul, Nat.zero_add] at a0 a1
      have fza : ∀ j, w6.frozen? ⟨rb, j, none⟩ = false := fun j => World.ownsRow.frozenAt g1 j
      obtain ⟨ln, hln⟩ : ∃ ln, ln = t.inn.length := ⟨_, rfl⟩
      have hlnp : 0 < ln := by omega
      have Hlt := Lib.hid hlt
      have Hax := Lib.hid hax
      have G2 := Lib.hid g2
      have G3 := Lib.hid g3
      rw [← hln] at e3 Hlt
      have Hln := Lib.hid hln
      obtain ⟨av2, nv2, cv2, hv2⟩ := own_form3 g2
      obtain ⟨av3, nv3, cv3, hv3⟩ := own_form3 g3
      subst hv2 hv3
      clear hlt hax g1 g2 g3 hln hrb
      go_upto_region 32 with (fail)
      clear e0 e1 e2 e3 e4 e5 fz a0 a1 fza hrtW hrbW
      obtain ⟨ev, q1, q2⟩ := Hin6.out.fin.calls
      have Q1 := Lib.hid (fun p : NewBy w6 => q1 p.to p.below)
      have Q2 := Lib.hid (fun p : NewBy w6 => q2 p.to p.below)
      have Hbel := Lib.hid Hin6.out.below
      have hg := Hin6.out.fin.lt
      have n0 := fun p : NewBy w6 => NewBy.cell (o := 0) hg Hin6.out.fin.c0 p
      have n1 := fun p : NewBy w6 => NewBy.cell (o := 1) hg Hin6.out.fin.c1 p
      clear q1 q2
      go_wp2
      clear hii hz
      try clear hki
      refine wp_region_new (by kernel_rfl) (by kernel_rfl) ?_
      repeat (go_big_quiet_step (first | (go_at_call 12; exact Calls.new_of (Q1.out _)) | (go_at_call 13; exact Calls.new_of (Q2.out _))))
      refine wpQuiet_nil ?_
      intro wz hzz
      obtain ⟨pz, hzz⟩ := hzz
      subst hzz
      go_wp2
      go_ret
      exact ⟨by simp, Hbel.out.trans (pz.below.mono Hbel.out.size)⟩
  · have hcz : 2 = 2 := rfl
    clear hcz
    have fz1 := fz (i * 2)
    obtain ⟨r0, p0, he0, _, _, hps0, d0, d1, _⟩ := Hin4.out.place hpp
    injection he0 with he0
    injection he0 with he0 _ _
    subst he0
    rw [Nat.zero_mul] at d0
    have hn0 := Hin4.out.sp p0 (List.mem_of_getElem? hps0)
    have Hin5 := Lib.hid (Hin4.out.setPl (j := 0) (p' := ⟨p0.name, p'.tok⟩) (y := .string p0.name) Hp'.out (by omega) rfl hn0)
    clear hps0 d1
    go_upto_region 14 with (fail)
    clear c0 c1 fz fz1 m0 m1 hrW Hin4 d0
    simp only [Nat.add_zero] at Hin5
    generalize w4.setCell ⟨r, i * 2, none⟩ (.string p0.name) = w5 at Hin5 ⊢
    have m0 := Hin5.out.fin.c0
    have m1 := Hin5.out.fin.c1
    have hg5 := Hin5.out.fin.lt
    by_cases ht0 : nt = 0
    · have ht0i : ¬ (0 : Int) < (nt : Int) := by omega
      have ht0n : ¬ 0 < nt := by omega
      have ht0b : decide (0 < nt) = false := decide_eq_false ht0n
      clear ht0
      go_upto_region 32 with (fail)
      clear m0 m1 hg5
      obtain ⟨ev, q1, q2⟩ := Hin5.out.fin.calls
      have Q1 := Lib.hid (fun p : NewBy w5 => q1 p.to p.below)
      have Q2 := Lib.hid (fun p : NewBy w5 => q2 p.to p.below)
      have Hbel := Lib.hid Hin5.out.below
      have hg := Hin5.out.fin.lt
      have n0 := fun p : NewBy w5 => NewBy.cell (o := 0) hg Hin5.out.fin.c0 p
      have n1 := fun p : NewBy w5 => NewBy.cell (o := 1) hg Hin5.out.fin.c1 p
      clear q1 q2
      go_wp2
      clear hii hz
      try clear hki
      refine wp_region_new (by kernel_rfl) (by kernel_rfl) ?_
      repeat (go_big_quiet_step (first | (go_at_call 12; exact Calls.new_of (Q1.out _)) | (go_at_call 13; exact Calls.new_of (Q2.out _))))
      refine wpQuiet_nil ?_
      intro wz hzz
      obtain ⟨pz, hzz⟩ := hzz
      subst hzz
      go_wp2
      go_ret
      exact ⟨by simp, Hbel.out.trans (pz.below.mono Hbel.out.size)⟩
    · have htp : 0 < nt := by omega
      have htpi : (0 : Int) < (nt : Int) := by omega
      obtain ⟨k, hk⟩ : ∃ k, k = A % nt := ⟨_, rfl⟩
      have hkt : k < nt := by rw [hk]; exact Nat.mod_lt _ htp
      have hki : (A : Int) % (nt : Int) = (k : Int) := by rw [hk]; rfl
      have hkti : (k : Int) < (nt : Int) := by omega
      clear hk
      obtain ⟨rt, t0, v10, v20, v30, hat, _⟩ := Hin5.out.trans hkt
      subst hat
      go_wp2
      go_quiet (fail)
      have Hin6 := Lib.hid (Hin5.out.go (W' := w5.drewN nq) ⟨rfl, rfl, rfl, Nat.le_refl _, fun _ _ => rfl⟩)
      clear Hin5 m0 m1 hg5
      generalize w5.drewN nq = w6 at Hin6 ⊢
      obtain ⟨rt', t, v1, v2, v3, hat, hrtB, hrtW, hlt, e0, e1, e2, e3, e4, e5, fz, g1, g2, g3⟩ := Hin6.out.trans hkt
      injection hat with hat
      injection hat with hat _ _
      subst hat
      obtain ⟨htl, htn, hto⟩ := Hinn.out k t (by rw [← Hl.out, List.getElem?_map, hlt]; rfl)
      obtain ⟨⟨ax, ay⟩, hax⟩ := at_lt (l := t.inn) (k := 0) (by omega)
      rcases g1.2 with ⟨_, h0⟩ | ⟨rb, cb, cur, hv1, hrbB, hrb, _⟩
      · omega
      subst hv1
      obtain ⟨b', off', hbe, hrbW, a0, a1⟩ := ArcsAt.at_ (OwnA.at_ g1) hax
      injection hbe with hbe
      injection hbe with hbe1 hbe2 _
      subst hbe1 hbe2
      simp only [Nat.zero_mul, Nat.zero_add] at a0 a1
      have fza : ∀ j, w6.frozen? ⟨rb, j, none⟩ = false := fun j => World.ownsRow.frozenAt g1 j
      obtain ⟨ln, hln⟩ : ∃ ln, ln = t.inn.length := ⟨_, rfl⟩
      have hlnp : 0 < ln := by omega
      have Hlt := Lib.hid hlt
      have Hax := Lib.hid hax
      have G2 := Lib.hid g2
      have G3 := Lib.hid g3
      rw [← hln] at e3 Hlt
      have Hln := Lib.hid hln
      obtain ⟨av2, nv2, cv2, hv2⟩ := own_form3 g2
      obtain ⟨av3, nv3, cv3, hv3⟩ := own_form3 g3
      subst hv2 hv3
      clear hlt hax g1 g2 g3 hln hrb
      go_upto_region 32 with (fail)
      clear e0 e1 e2 e3 e4 e5 fz a0 a1 fza hrtW hrbW
      obtain ⟨ev, q1, q2⟩ := Hin6.out.fin.calls
      have Q1 := Lib.hid (fun p : NewBy w6 => q1 p.to p.below)
      have Q2 := Lib.hid (fun p : NewBy w6 => q2 p.to p.below)
      have Hbel := Lib.hid Hin6.out.below
      have hg := Hin6.out.fin.lt
      have n0 := fun p : NewBy w6 => NewBy.cell (o := 0) hg Hin6.out.fin.c0 p
      have n1 := fun p : NewBy w6 => NewBy.cell (o := 1) hg Hin6.out.fin.c1 p
      clear q1 q2
      go_wp2
      clear hii hz
      try clear hki
      refine wp_region_new (by kernel_rfl) (by kernel_rfl) ?_
      repeat (go_big_quiet_step (first | (go_at_call 12; exact Calls.new_of (Q1.out _)) | (go_at_call 13; exact Calls.new_of (Q2.out _))))
      refine wpQuiet_nil ?_
      intro wz hzz
      obtain ⟨pz, hzz⟩ := hzz
      subst hzz
      go_wp2
      go_ret
      exact ⟨by simp, Hbel.out.trans (pz.below.mono Hbel.out.size)⟩
  · have hcz : 3 = 3 := rfl
    clear hcz
    go_upto_region 14 with (fail)
    clear c0 c1 fz m0 m1 hrW
    have Hin5 := Hin4
    clear Hin4
    generalize w4 = w5 at Hin5 ⊢
    have m0 := Hin5.out.fin.c0
    have m1 := Hin5.out.fin.c1
    have hg5 := Hin5.out.fin.lt
    by_cases ht0 : nt = 0
    · have ht0i : ¬ (0 : Int) < (nt : Int) := by omega
      have ht0n : ¬ 0 < nt := by omega
      have ht0b : decide (0 < nt) = false := decide_eq_false ht0n
      clear ht0
      go_upto_region 32 with (fail)
      clear m0 m1 hg5
      obtain ⟨ev, q1, q2⟩ := Hin5.out.fin.calls
      have Q1 := Lib.hid (fun p : NewBy w5 => q1 p.to p.below)
      have Q2 := Lib.hid (fun p : NewBy w5 => q2 p.to p.below)
      have Hbel := Lib.hid Hin5.out.below
      have hg := Hin5.out.fin.lt
      have n0 := fun p : NewBy w5 => NewBy.cell (o := 0) hg Hin5.out.fin.c0 p
      have n1 := fun p : NewBy w5 => NewBy.cell (o := 1) hg Hin5.out.fin.c1 p
      clear q1 q2
      go_wp2
      clear hii hz
      try clear hki
      refine wp_region_new (by kernel_rfl) (by kernel_rfl) ?_
      repeat (go_big_quiet_step (first | (go_at_call 12; exact Calls.new_of (Q1.out _)) | (go_at_call 13; exact Calls.new_of (Q2.out _))))
      refine wpQuiet_nil ?_
      intro wz hzz
      obtain ⟨pz, hzz⟩ := hzz
      subst hzz
      go_wp2
      go_ret
      exact ⟨by simp, Hbel.out.trans (pz.below.mono Hbel.out.size)⟩
    · have htp : 0 < nt := by omega
      have htpi : (0 : Int) < (nt : Int) := by omega
      obtain ⟨k, hk⟩ : ∃ k, k = A % nt := ⟨_, rfl⟩
      have hkt : k < nt := by rw [hk]; exact Nat.mod_lt _ htp
      have hki : (A : Int) % (nt : Int) = (k : Int) := by rw [hk]; rfl
      have hkti : (k : Int) < (nt : Int) := by omega
      clear hk
      obtain ⟨rt, t0, v10, v20, v30, hat, _⟩ := Hin5.out.trans hkt
      subst hat
      go_wp2
      go_quiet (fail)
      have Hin6 := Lib.hid (Hin5.out.go (W' := w5.drewN nq) ⟨rfl, rfl, rfl, Nat.le_refl _, fun _ _ => rfl⟩)
      clear Hin5 m0 m1 hg5
      generalize w5.drewN nq = w6 at Hin6 ⊢
      obtain ⟨rt', t, v1, v2, v3, hat, hrtB, hrtW, hlt, e0, e1, e2, e3, e4, e5, fz, g1, g2, g3⟩ := Hin6.out.trans hkt
      injection hat with hat
      injection hat with hat _ _
      subst hat
      obtain ⟨htl, htn, hto⟩ := Hinn.out k t (by rw [← Hl.out, List.getElem?_map, hlt]; rfl)
      obtain ⟨⟨ax, ay⟩, hax⟩ := at_lt (l := t.inn) (k := 0) (by omega)
      rcases g1.2 with ⟨_, h0⟩ | ⟨rb, cb, cur, hv1, hrbB, hrb, _⟩
      · omega
      subst hv1
      obtain ⟨b', off', hbe, hrbW, a0, a1⟩ := ArcsAt.at_ (OwnA.at_ g1) hax
      injection hbe with hbe
      injection hbe with hbe1 hbe2 _
      subst hbe1 hbe2
      simp only [Nat.zero_mul, Nat.zero_add] at a0 a1
      have fza : ∀ j, w6.frozen? ⟨rb, j, none⟩ = false := fun j => World.ownsRow.frozenAt g1 j
      obtain ⟨ln, hln⟩ : ∃ ln, ln = t.inn.length := ⟨_, rfl⟩
      have hlnp : 0 < ln := by omega
      have Hlt := Lib.hid hlt
      have Hax := Lib.hid hax
      have G2 := Lib.hid g2
      have G3 := Lib.hid g3
      rw [← hln] at e3 Hlt
      have Hln := Lib.hid hln
      obtain ⟨av2, nv2, cv2, hv2⟩ := own_form3 g2
      obtain ⟨av3, nv3, cv3, hv3⟩ := own_form3 g3
      subst hv2 hv3
      clear hlt hax g1 g2 g3 hln hrb
      have fz1 := fz (k * 6 + 1)
      have Hin7 := Lib.hid (Hin6.out.setTr (j := 1) (x' := (⟨t.name, n, t.prio, t.inn, t.nt, t.out⟩, .slice (some ⟨rb, 0, none⟩) ln cb, .slice av2 nv2 cv2, .slice av3 nv3 cv3)) (y := .int .i64 n) Hlt.out (by omega) rfl rfl (Hin6.out.st (t, .slice (some ⟨rb, 0, none⟩) ln cb, .slice av2 nv2 cv2, .slice av3 nv3 cv3) (List.mem_of_getElem? Hlt.out)))
      go_upto_region 32 with (fail)
      clear e0 e1 e2 e3 e4 e5 fz a0 a1 fza hrtW hrbW fz1
      clear Hin6
      generalize w6.setCell ⟨rt, k * 6 + 1, none⟩ (.int .i64 n) = w7 at Hin7 ⊢
      obtain ⟨ev, q1, q2⟩ := Hin7.out.fin.calls
      have Q1 := Lib.hid (fun p : NewBy w7 => q1 p.to p.below)
      have Q2 := Lib.hid (fun p : NewBy w7 => q2 p.to p.below)
      have Hbel := Lib.hid Hin7.out.below
      have hg := Hin7.out.fin.lt
      have n0 := fun p : NewBy w7 => NewBy.cell (o := 0) hg Hin7.out.fin.c0 p
      have n1 := fun p : NewBy w7 => NewBy.cell (o := 1) hg Hin7.out.fin.c1 p
      clear q1 q2
      go_wp2
      clear hii hz
      try clear hki
      refine wp_region_new (by kernel_rfl) (by kernel_rfl) ?_
      repeat (go_big_quiet_step (first | (go_at_call 12; exact Calls.new_of (Q1.out _)) | (go_at_call 13; exact Calls.new_of (Q2.out _))))
      refine wpQuiet_nil ?_
      intro wz hzz
      obtain ⟨pz, hzz⟩ := hzz
      subst hzz
      go_wp2
      go_ret
      exact ⟨by simp, Hbel.out.trans (pz.below.mono Hbel.out.size)⟩
  · have hcz : 4 = 4 := rfl
    clear hcz
    go_upto_region 14 with (fail)
    clear c0 c1 fz m0 m1 hrW
    have Hin5 := Hin4
    clear Hin4
    generalize w4 = w5 at Hin5 ⊢
    have m0 := Hin5.out.fin.c0
    have m1 := Hin5.out.fin.c1
    have hg5 := Hin5.out.fin.lt
    by_cases ht0 : nt = 0
    · have ht0i : ¬ (0 : Int) < (nt : Int) := by omega
      have ht0n : ¬ 0 < nt := by omega
      have ht0b : decide (0 < nt) = false := decide_eq_false ht0n
      clear ht0
      go_upto_region 32 with (fail)
      clear m0 m1 hg5
      obtain ⟨ev, q1, q2⟩ := Hin5.out.fin.calls
      have Q1 := Lib.hid (fun p : NewBy w5 => q1 p.to p.below)
      have Q2 := Lib.hid (fun p : NewBy w5 => q2 p.to p.below)
      have Hbel := Lib.hid Hin5.out.below
      have hg := Hin5.out.fin.lt
      have n0 := fun p : NewBy w5 => NewBy.cell (o := 0) hg Hin5.out.fin.c0 p
      have n1 := fun p : NewBy w5 => NewBy.cell (o := 1) hg Hin5.out.fin.c1 p
      clear q1 q2
      go_wp2
      clear hii hz
      try clear hki
      refine wp_region_new (by kernel_rfl) (by kernel_rfl) ?_
      repeat (go_big_quiet_step (first | (go_at_call 12; exact Calls.new_of (Q1.out _)) | (go_at_call 13; exact Calls.new_of (Q2.out _))))
      refine wpQuiet_nil ?_
      intro wz hzz
      obtain ⟨pz, hzz⟩ := hzz
      subst hzz
      go_wp2
      go_ret
      exact ⟨by simp, Hbel.out.trans (pz.below.mono Hbel.out.size)⟩
    · have htp : 0 < nt := by omega
      have htpi : (0 : Int) < (nt : Int) := by omega
      obtain ⟨k, hk⟩ : ∃ k, k = A % nt := ⟨_, rfl⟩
      have hkt : k < nt := by rw [hk]; exact Nat.mod_lt _ htp
      have hki : (A : Int) % (nt : Int) = (k : Int) := by rw [hk]; rfl
      have hkti : (k : Int) < (nt : Int) := by omega
      clear hk
      obtain ⟨rt, t0, v10, v20, v30, hat, _⟩ := Hin5.out.trans hkt
      subst hat
      go_wp2
      go_quiet (fail)
      have Hin6 := Lib.hid (Hin5.out.go (W' := w5.drewN nq) ⟨rfl, rfl, rfl, Nat.le_refl _, fun _ _ => rfl⟩)
      clear Hin5 m0 m1 hg5
      generalize w5.drewN nq = w6 at Hin6 ⊢
      obtain ⟨rt', t, v1, v2, v3, hat, hrtB, hrtW, hlt, e0, e1, e2, e3, e4, e5, fz, g1, g2, g3⟩ := Hin6.out.trans hkt
      injection hat with hat
      injection hat with hat _ _
      subst hat
      obtain ⟨htl, htn, hto⟩ := Hinn.out k t (by rw [← Hl.out, List.getElem?_map, hlt]; rfl)
      obtain ⟨⟨ax, ay⟩, hax⟩ := at_lt (l := t.inn) (k := 0) (by omega)
      rcases g1.2 with ⟨_, h0⟩ | ⟨rb, cb, cur, hv1, hrbB, hrb, _⟩
      · omega
      subst hv1
      obtain ⟨b', off', hbe, hrbW, a0, a1⟩ := ArcsAt.at_ (OwnA.at_ g1) hax
      injection hbe with hbe
      injection hbe with hbe1 hbe2 _
      subst hbe1 hbe2
      simp only [Nat.zero_mul, Nat.zero_add] at a0 a1
      have fza : ∀ j, w6.frozen? ⟨rb, j, none⟩ = false := fun j => World.ownsRow.frozenAt g1 j
      obtain ⟨ln, hln⟩ : ∃ ln, ln = t.inn.length := ⟨_, rfl⟩
      have hlnp : 0 < ln := by omega
      have Hlt := Lib.hid hlt
      have Hax := Lib.hid hax
      have G2 := Lib.hid g2
      have G3 := Lib.hid g3
      rw [← hln] at e3 Hlt
      have Hln := Lib.hid hln
      obtain ⟨av2, nv2, cv2, hv2⟩ := own_form3 g2
      obtain ⟨av3, nv3, cv3, hv3⟩ := own_form3 g3
      subst hv2 hv3
      clear hlt hax g1 g2 g3 hln hrb
      have fz1 := fz (k * 6 + 2)
      have Hin7 := Lib.hid (Hin6.out.setTr (j := 2) (x' := (⟨t.name, t.delay, n, t.inn, t.nt, t.out⟩, .slice (some ⟨rb, 0, none⟩) ln cb, .slice av2 nv2 cv2, .slice av3 nv3 cv3)) (y := .int .i64 n) Hlt.out (by omega) rfl rfl (Hin6.out.st (t, .slice (some ⟨rb, 0, none⟩) ln cb, .slice av2 nv2 cv2, .slice av3 nv3 cv3) (List.mem_of_getElem? Hlt.out)))
      go_upto_region 32 with (fail)
      clear e0 e1 e2 e3 e4 e5 fz a0 a1 fza hrtW hrbW fz1
      clear Hin6
      generalize w6.setCell ⟨rt, k * 6 + 2, none⟩ (.int .i64 n) = w7 at Hin7 ⊢
      obtain ⟨ev, q1, q2⟩ := Hin7.out.fin.calls
      have Q1 := Lib.hid (fun p : NewBy w7 => q1 p.to p.below)
      have Q2 := Lib.hid (fun p : NewBy w7 => q2 p.to p.below)
      have Hbel := Lib.hid Hin7.out.below
      have hg := Hin7.out.fin.lt
      have n0 := fun p : NewBy w7 => NewBy.cell (o := 0) hg Hin7.out.fin.c0 p
      have n1 := fun p : NewBy w7 => NewBy.cell (o := 1) hg Hin7.out.fin.c1 p
      clear q1 q2
      go_wp2
      clear hii hz
      try clear hki
      refine wp_region_new (by kernel_rfl) (by kernel_rfl) ?_
      repeat (go_big_quiet_step (first | (go_at_call 12; exact Calls.new_of (Q1.out _)) | (go_at_call 13; exact Calls.new_of (Q2.out _))))
      refine wpQuiet_nil ?_
      intro wz hzz
      obtain ⟨pz, hzz⟩ := hzz
      subst hzz
      go_wp2
      go_ret
      exact ⟨by simp, Hbel.out.trans (pz.below.mono Hbel.out.size)⟩
  · have hcz : 5 = 5 := rfl
    clear hcz
    go_upto_region 14 with (fail)
    clear c0 c1 fz m0 m1 hrW
    have Hin5 := Hin4
    clear Hin4
    generalize w4 = w5 at Hin5 ⊢
    have m0 := Hin5.out.fin.c0
    have m1 := Hin5.out.fin.c1
    have hg5 := Hin5.out.fin.lt
    by_cases ht0 : nt = 0
    · have ht0i : ¬ (0 : Int) < (nt : Int) := by omega
      have ht0n : ¬ 0 < nt := by omega
      have ht0b : decide (0 < nt) = false := decide_eq_false ht0n
      clear ht0
      go_upto_region 32 with (fail)
      clear m0 m1 hg5
      obtain ⟨ev, q1, q2⟩ := Hin5.out.fin.calls
      have Q1 := Lib.hid (fun p : NewBy w5 => q1 p.to p.below)
      have Q2 := Lib.hid (fun p : NewBy w5 => q2 p.to p.below)
      have Hbel := Lib.hid Hin5.out.below
      have hg := Hin5.out.fin.lt
      have n0 := fun p : NewBy w5 => NewBy.cell (o := 0) hg Hin5.out.fin.c0 p
      have n1 := fun p : NewBy w5 => NewBy.cell (o := 1) hg Hin5.out.fin.c1 p
      clear q1 q2
      go_wp2
      clear hii hz
      try clear hki
      refine wp_region_new (by kernel_rfl) (by kernel_rfl) ?_
      repeat (go_big_quiet_step (first | (go_at_call 12; exact Calls.new_of (Q1.out _)) | (go_at_call 13; exact Calls.new_of (Q2.out _))))
      refine wpQuiet_nil ?_
      intro wz hzz
      obtain ⟨pz, hzz⟩ := hzz
      subst hzz
      go_wp2
      go_ret
      exact ⟨by simp, Hbel.out.trans (pz.below.mono Hbel.out.size)⟩
    · have htp : 0 < nt := by omega
      have htpi : (0 : Int) < (nt : Int) := by omega
      obtain ⟨k, hk⟩ : ∃ k, k = A % nt := ⟨_, rfl⟩
      have hkt : k < nt := by rw [hk]; exact Nat.mod_lt _ htp
      have hki : (A : Int) % (nt : Int) = (k : Int) := by rw [hk]; rfl
      have hkti : (k : Int) < (nt : Int) := by omega
      clear hk
      obtain ⟨rt, t0, v10, v20, v30, hat, _⟩ := Hin5.out.trans hkt
      subst hat
      go_wp2
      go_quiet (fail)
      have Hin6 := Lib.hid (Hin5.out.go (W' := w5.drewN nq) ⟨rfl, rfl, rfl, Nat.le_refl _, fun _ _ => rfl⟩)
      clear Hin5 m0 m1 hg5
      generalize w5.drewN nq = w6 at Hin6 ⊢
      obtain ⟨rt', t, v1, v2, v3, hat, hrtB, hrtW, hlt, e0, e1, e2, e3, e4, e5, fz, g1, g2, g3⟩ := Hin6.out.trans hkt
      injection hat with hat
      injection hat with hat _ _
      subst hat
      obtain ⟨htl, htn, hto⟩ := Hinn.out k t (by rw [← Hl.out, List.getElem?_map, hlt]; rfl)
      obtain ⟨⟨ax, ay⟩, hax⟩ := at_lt (l := t.inn) (k := 0) (by omega)
      rcases g1.2 with ⟨_, h0⟩ | ⟨rb, cb, cur, hv1, hrbB, hrb, _⟩
      · omega
      subst hv1
      obtain ⟨b', off', hbe, hrbW, a0, a1⟩ := ArcsAt.at_ (OwnA.at_ g1) hax
      injection hbe with hbe
      injection hbe with hbe1 hbe2 _
      subst hbe1 hbe2
      simp only [Nat.zero_mul, Nat.zero_add] at a0 a1
      have fza : ∀ j, w6.frozen? ⟨rb, j, none⟩ = false := fun j => World.ownsRow.frozenAt g1 j
      obtain ⟨ln, hln⟩ : ∃ ln, ln = t.inn.length := ⟨_, rfl⟩
      have hlnp : 0 < ln := by omega
      have Hlt := Lib.hid hlt
      have Hax := Lib.hid hax
      have G2 := Lib.hid g2
      have G3 := Lib.hid g3
      rw [← hln] at e3 Hlt
      have Hln := Lib.hid hln
      obtain ⟨av2, nv2, cv2, hv2⟩ := own_form3 g2
      obtain ⟨av3, nv3, cv3, hv3⟩ := own_form3 g3
      subst hv2 hv3
      clear hlt hax g1 g2 g3 hln hrb
      have fz1 := fz (k * 6)
      have Hin7 := Lib.hid (Hin6.out.setTr (j := 0) (x' := (⟨s, t.delay, t.prio, t.inn, t.nt, t.out⟩, .slice (some ⟨rb, 0, none⟩) ln cb, .slice av2 nv2 cv2, .slice av3 nv3 cv3)) (y := .string s) Hlt.out (by omega) rfl rfl (by show s.size ≤ 1000; omega))
      go_upto_region 32 with (fail)
      clear e0 e1 e2 e3 e4 e5 fz a0 a1 fza hrtW hrbW fz1
      simp only [Nat.add_zero] at Hin7
      clear Hin6
      generalize w6.setCell ⟨rt, k * 6, none⟩ (.string s) = w7 at Hin7 ⊢
      obtain ⟨ev, q1, q2⟩ := Hin7.out.fin.calls
      have Q1 := Lib.hid (fun p : NewBy w7 => q1 p.to p.below)
      have Q2 := Lib.hid (fun p : NewBy w7 => q2 p.to p.below)
      have Hbel := Lib.hid Hin7.out.below
      have hg := Hin7.out.fin.lt
      have n0 := fun p : NewBy w7 => NewBy.cell (o := 0) hg Hin7.out.fin.c0 p
      have n1 := fun p : NewBy w7 => NewBy.cell (o := 1) hg Hin7.out.fin.c1 p
      clear q1 q2
      go_wp2
      clear hii hz
      try clear hki
      refine wp_region_new (by kernel_rfl) (by kernel_rfl) ?_
      repeat (go_big_quiet_step (first | (go_at_call 12; exact Calls.new_of (Q1.out _)) | (go_at_call 13; exact Calls.new_of (Q2.out _))))
      refine wpQuiet_nil ?_
      intro wz hzz
      obtain ⟨pz, hzz⟩ := hzz
      subst hzz
      go_wp2
      go_ret
      exact ⟨by simp, Hbel.out.trans (pz.below.mono Hbel.out.size)⟩
  · have hcz : 6 = 6 := rfl
    clear hcz
    go_upto_region 14 with (fail)
    clear c0 c1 fz m0 m1 hrW
    have Hin5 := Hin4
    clear Hin4
    generalize w4 = w5 at Hin5 ⊢
    have m0 := Hin5.out.fin.c0
    have m1 := Hin5.out.fin.c1
    have hg5 := Hin5.out.fin.lt
    by_cases ht0 : nt = 0
    · have ht0i : ¬ (0 : Int) < (nt : Int) := by omega
      have ht0n : ¬ 0 < nt := by omega
      have ht0b : decide (0 < nt) = false := decide_eq_false ht0n
      clear ht0
      go_upto_region 32 with (fail)
      clear m0 m1 hg5
      obtain ⟨ev, q1, q2⟩ := Hin5.out.fin.calls
      have Q1 := Lib.hid (fun p : NewBy w5 => q1 p.to p.below)
      have Q2 := Lib.hid (fun p : NewBy w5 => q2 p.to p.below)
      have Hbel := Lib.hid Hin5.out.below
      have hg := Hin5.out.fin.lt
      have n0 := fun p : NewBy w5 => NewBy.cell (o := 0) hg Hin5.out.fin.c0 p
      have n1 := fun p : NewBy w5 => NewBy.cell (o := 1) hg Hin5.out.fin.c1 p
      clear q1 q2
      go_wp2
      clear hii hz
      try clear hki
      refine wp_region_new (by kernel_rfl) (by kernel_rfl) ?_
      repeat (go_big_quiet_step (first | (go_at_call 12; exact Calls.new_of (Q1.out _)) | (go_at_call 13; exact Calls.new_of (Q2.out _))))
      refine wpQuiet_nil ?_
      intro wz hzz
      obtain ⟨pz, hzz⟩ := hzz
      subst hzz
      go_wp2
      go_ret
      exact ⟨by simp, Hbel.out.trans (pz.below.mono Hbel.out.size)⟩
    · have htp : 0 < nt := by omega
      have htpi : (0 : Int) < (nt : Int) := by omega
      obtain ⟨k, hk⟩ : ∃ k, k = A % nt := ⟨_, rfl⟩
      have hkt : k < nt := by rw [hk]; exact Nat.mod_lt _ htp
      have hki : (A : Int) % (nt : Int) = (k : Int) := by rw [hk]; rfl
      have hkti : (k : Int) < (nt : Int) := by omega
      clear hk
      obtain ⟨rt, t0, v10, v20, v30, hat, _⟩ := Hin5.out.trans hkt
      subst hat
      go_wp2
      go_quiet (fail)
      have Hin6 := Lib.hid (Hin5.out.go (W' := w5.drewN nq) ⟨rfl, rfl, rfl, Nat.le_refl _, fun _ _ => rfl⟩)
      clear Hin5 m0 m1 hg5
      generalize w5.drewN nq = w6 at Hin6 ⊢
      obtain ⟨rt', t, v1, v2, v3, hat, hrtB, hrtW, hlt, e0, e1, e2, e3, e4, e5, fz, g1, g2, g3⟩ := Hin6.out.trans hkt
      injection hat with hat
      injection hat with hat _ _
      subst hat
      obtain ⟨htl, htn, hto⟩ := Hinn.out k t (by rw [← Hl.out, List.getElem?_map, hlt]; rfl)
      obtain ⟨⟨ax, ay⟩, hax⟩ := at_lt (l := t.inn) (k := 0) (by omega)
      rcases g1.2 with ⟨_, h0⟩ | ⟨rb, cb, cur, hv1, hrbB, hrb, _⟩
      · omega
      subst hv1
      obtain ⟨b', off', hbe, hrbW, a0, a1⟩ := ArcsAt.at_ (OwnA.at_ g1) hax
      injection hbe with hbe
      injection hbe with hbe1 hbe2 _
      subst hbe1 hbe2
      simp only [Nat.zero_mul, Nat.zero_add] at a0 a1
      have fza : ∀ j, w6.frozen? ⟨rb, j, none⟩ = false := fun j => World.ownsRow.frozenAt g1 j
      obtain ⟨ln, hln⟩ : ∃ ln, ln = t.inn.length := ⟨_, rfl⟩
      have hlnp : 0 < ln := by omega
      have Hlt := Lib.hid hlt
      have Hax := Lib.hid hax
      have G2 := Lib.hid g2
      have G3 := Lib.hid g3
      rw [← hln] at e3 Hlt
      have Hln := Lib.hid hln
      obtain ⟨av2, nv2, cv2, hv2⟩ := own_form3 g2
      obtain ⟨av3, nv3, cv3, hv3⟩ := own_form3 g3
      subst hv2 hv3
      clear hlt hax g1 g2 g3 hln hrb
      have fz1 := fza 1
      have Hlt2 : Hid (l[k]? = some (t, .slice (some ⟨rb, 0, none⟩) t.inn.length cb, .slice av2 nv2 cv2, .slice av3 nv3 cv3)) := Lib.hid (by rw [← Hln.out]; exact Hlt.out)
      have Hin7 := Lib.hid (Hin6.out.setIn (q := 0) (j := 1) (a' := (ax, n)) (y := .int .i64 n) Hlt2.out Hax.out (by omega) rfl)
      simp only [Nat.zero_mul, Nat.zero_add] at Hin7
      go_upto_region 32 with (fail)
      clear e0 e1 e2 e3 e4 e5 fz a0 a1 fza hrtW hrbW fz1 Hin6
      generalize w6.setCell ⟨rb, 1, none⟩ (.int .i64 n) = w7 at Hin7 ⊢
      obtain ⟨ev, q1, q2⟩ := Hin7.out.fin.calls
      have Q1 := Lib.hid (fun p : NewBy w7 => q1 p.to p.below)
      have Q2 := Lib.hid (fun p : NewBy w7 => q2 p.to p.below)
      have Hbel := Lib.hid Hin7.out.below
      have hg := Hin7.out.fin.lt
      have n0 := fun p : NewBy w7 => NewBy.cell (o := 0) hg Hin7.out.fin.c0 p
      have n1 := fun p : NewBy w7 => NewBy.cell (o := 1) hg Hin7.out.fin.c1 p
      clear q1 q2
      go_wp2
      clear hii hz
      try clear hki
      refine wp_region_new (by kernel_rfl) (by kernel_rfl) ?_
      repeat (go_big_quiet_step (first | (go_at_call 12; exact Calls.new_of (Q1.out _)) | (go_at_call 13; exact Calls.new_of (Q2.out _))))
      refine wpQuiet_nil ?_
      intro wz hzz
      obtain ⟨pz, hzz⟩ := hzz
      subst hzz
      go_wp2
      go_ret
      exact ⟨by simp, Hbel.out.trans (pz.below.mono Hbel.out.size)⟩
  · have hcz : 7 = 7 := rfl
    clear hcz
    go_upto_region 14 with (fail)
    clear c0 c1 fz m0 m1 hrW
    have Hin5 := Hin4
    clear Hin4
    generalize w4 = w5 at Hin5 ⊢
    have m0 := Hin5.out.fin.c0
    have m1 := Hin5.out.fin.c1
    have hg5 := Hin5.out.fin.lt
    by_cases ht0 : nt = 0
    · have ht0i : ¬ (0 : Int) < (nt : Int) := by omega
      have ht0n : ¬ 0 < nt := by omega
      have ht0b : decide (0 < nt) = false := decide_eq_false ht0n
      clear ht0
      go_upto_region 32 with (fail)
      clear m0 m1 hg5
      obtain ⟨ev, q1, q2⟩ := Hin5.out.fin.calls
      have Q1 := Lib.hid (fun p : NewBy w5 => q1 p.to p.below)
      have Q2 := Lib.hid (fun p : NewBy w5 => q2 p.to p.below)
      have Hbel := Lib.hid Hin5.out.below
      have hg := Hin5.out.fin.lt
      have n0 := fun p : NewBy w5 => NewBy.cell (o := 0) hg Hin5.out.fin.c0 p
      have n1 := fun p : NewBy w5 => NewBy.cell (o := 1) hg Hin5.out.fin.c1 p
      clear q1 q2
      go_wp2
      clear hii hz
      try clear hki
      refine wp_region_new (by kernel_rfl) (by kernel_rfl) ?_
      repeat (go_big_quiet_step (first | (go_at_call 12; exact Calls.new_of (Q1.out _)) | (go_at_call 13; exact Calls.new_of (Q2.out _))))
      refine wpQuiet_nil ?_
      intro wz hzz
      obtain ⟨pz, hzz⟩ := hzz
      subst hzz
      go_wp2
      go_ret
      exact ⟨by simp, Hbel.out.trans (pz.below.mono Hbel.out.size)⟩
    · have htp : 0 < nt := by omega
      have htpi : (0 : Int) < (nt : Int) := by omega
      obtain ⟨k, hk⟩ : ∃ k, k = A % nt := ⟨_, rfl⟩
      have hkt : k < nt := by rw [hk]; exact Nat.mod_lt _ htp
      have hki : (A : Int) % (nt : Int) = (k : Int) := by rw [hk]; rfl
      have hkti : (k : Int) < (nt : Int) := by omega
      clear hk
      obtain ⟨rt, t0, v10, v20, v30, hat, _⟩ := Hin5.out.trans hkt
      subst hat
      go_wp2
      go_quiet (fail)
      have Hin6 := Lib.hid (Hin5.out.go (W' := w5.drewN nq) ⟨rfl, rfl, rfl, Nat.le_refl _, fun _ _ => rfl⟩)
      clear Hin5 m0 m1 hg5
      generalize w5.drewN nq = w6 at Hin6 ⊢
      obtain ⟨rt', t, v1, v2, v3, hat, hrtB, hrtW, hlt, e0, e1, e2, e3, e4, e5, fz, g1, g2, g3⟩ := Hin6.out.trans hkt
      injection hat with hat
      injection hat with hat _ _
      subst hat
      obtain ⟨htl, htn, hto⟩ := Hinn.out k t (by rw [← Hl.out, List.getElem?_map, hlt]; rfl)
      obtain ⟨⟨ax, ay⟩, hax⟩ := at_lt (l := t.inn) (k := 0) (by omega)
      rcases g1.2 with ⟨_, h0⟩ | ⟨rb, cb, cur, hv1, hrbB, hrb, _⟩
      · omega
      subst hv1
      obtain ⟨b', off', hbe, hrbW, a0, a1⟩ := ArcsAt.at_ (OwnA.at_ g1) hax
      injection hbe with hbe
      injection hbe with hbe1 hbe2 _
      subst hbe1 hbe2
      simp only [Nat.zero_mul, Nat.zero_add] at a0 a1
      have fza : ∀ j, w6.frozen? ⟨rb, j, none⟩ = false := fun j => World.ownsRow.frozenAt g1 j
      obtain ⟨ln, hln⟩ : ∃ ln, ln = t.inn.length := ⟨_, rfl⟩
      have hlnp : 0 < ln := by omega
      have Hlt := Lib.hid hlt
      have Hax := Lib.hid hax
      have G2 := Lib.hid g2
      have G3 := Lib.hid g3
      rw [← hln] at e3 Hlt
      have Hln := Lib.hid hln
      obtain ⟨av2, nv2, cv2, hv2⟩ := own_form3 g2
      obtain ⟨av3, nv3, cv3, hv3⟩ := own_form3 g3
      subst hv2 hv3
      clear hlt hax g1 g2 g3 hln hrb
      have fz1 := fza 0
      have Hlt2 : Hid (l[k]? = some (t, .slice (some ⟨rb, 0, none⟩) t.inn.length cb, .slice av2 nv2 cv2, .slice av3 nv3 cv3)) := Lib.hid (by rw [← Hln.out]; exact Hlt.out)
      have Hin7 := Lib.hid (Hin6.out.setIn (q := 0) (j := 0) (a' := (n, ay)) (y := .int .i64 n) Hlt2.out Hax.out (by omega) rfl)
      simp only [Nat.zero_mul, Nat.zero_add] at Hin7
      go_upto_region 32 with (fail)
      clear e0 e1 e2 e3 e4 e5 fz a0 a1 fza hrtW hrbW fz1 Hin6
      generalize w6.setCell ⟨rb, 0, none⟩ (.int .i64 n) = w7 at Hin7 ⊢
      obtain ⟨ev, q1, q2⟩ := Hin7.out.fin.calls
      have Q1 := Lib.hid (fun p : NewBy w7 => q1 p.to p.below)
      have Q2 := Lib.hid (fun p : NewBy w7 => q2 p.to p.below)
      have Hbel := Lib.hid Hin7.out.below
      have hg := Hin7.out.fin.lt
      have n0 := fun p : NewBy w7 => NewBy.cell (o := 0) hg Hin7.out.fin.c0 p
      have n1 := fun p : NewBy w7 => NewBy.cell (o := 1) hg Hin7.out.fin.c1 p
      clear q1 q2
      go_wp2
      clear hii hz
      try clear hki
      refine wp_region_new (by kernel_rfl) (by kernel_rfl) ?_
      repeat (go_big_quiet_step (first | (go_at_call 12; exact Calls.new_of (Q1.out _)) | (go_at_call 13; exact Calls.new_of (Q2.out _))))
      refine wpQuiet_nil ?_
      intro wz hzz
      obtain ⟨pz, hzz⟩ := hzz
      subst hzz
      go_wp2
      go_ret
      exact ⟨by simp, Hbel.out.trans (pz.below.mono Hbel.out.size)⟩
  · have hcz : 8 = 8 := rfl
    clear hcz
    go_upto_region 14 with (fail)
    clear c0 c1 fz m0 m1 hrW
    have Hin5 := Hin4
    clear Hin4
    generalize w4 = w5 at Hin5 ⊢
    have m0 := Hin5.out.fin.c0
    have m1 := Hin5.out.fin.c1
    have hg5 := Hin5.out.fin.lt
    by_cases ht0 : nt = 0
    · have ht0i : ¬ (0 : Int) < (nt : Int) := by omega
      have ht0n : ¬ 0 < nt := by omega
      have ht0b : decide (0 < nt) = false := decide_eq_false ht0n
      clear ht0
      go_upto_region 32 with (fail)
      clear m0 m1 hg5
      obtain ⟨ev, q1, q2⟩ := Hin5.out.fin.calls
      have Q1 := Lib.hid (fun p : NewBy w5 => q1 p.to p.below)
      have Q2 := Lib.hid (fun p : NewBy w5 => q2 p.to p.below)
      have Hbel := Lib.hid Hin5.out.below
      have hg := Hin5.out.fin.lt
      have n0 := fun p : NewBy w5 => NewBy.cell (o := 0) hg Hin5.out.fin.c0 p
      have n1 := fun p : NewBy w5 => NewBy.cell (o := 1) hg Hin5.out.fin.c1 p
      clear q1 q2
      go_wp2
      clear hii hz
      try clear hki
      refine wp_region_new (by kernel_rfl) (by kernel_rfl) ?_
      repeat (go_big_quiet_step (first | (go_at_call 12; exact Calls.new_of (Q1.out _)) | (go_at_call 13; exact Calls.new_of (Q2.out _))))
      refine wpQuiet_nil ?_
      intro wz hzz
      obtain ⟨pz, hzz⟩ := hzz
      subst hzz
      go_wp2
      go_ret
      exact ⟨by simp, Hbel.out.trans (pz.below.mono Hbel.out.size)⟩
    · have htp : 0 < nt := by omega
      have htpi : (0 : Int) < (nt : Int) := by omega
      obtain ⟨k, hk⟩ : ∃ k, k = A % nt := ⟨_, rfl⟩
      have hkt : k < nt := by rw [hk]; exact Nat.mod_lt _ htp
      have hki : (A : Int) % (nt : Int) = (k : Int) := by rw [hk]; rfl
      have hkti : (k : Int) < (nt : Int) := by omega
      clear hk
      obtain ⟨rt, t0, v10, v20, v30, hat, _⟩ := Hin5.out.trans hkt
      subst hat
      go_wp2
      go_quiet (fail)
      have Hin6 := Lib.hid (Hin5.out.go (W' := w5.drewN nq) ⟨rfl, rfl, rfl, Nat.le_refl _, fun _ _ => rfl⟩)
      clear Hin5 m0 m1 hg5
      generalize w5.drewN nq = w6 at Hin6 ⊢
      obtain ⟨rt', t, v1, v2, v3, hat, hrtB, hrtW, hlt, e0, e1, e2, e3, e4, e5, fz, g1, g2, g3⟩ := Hin6.out.trans hkt
      injection hat with hat
      injection hat with hat _ _
      subst hat
      obtain ⟨htl, htn, hto⟩ := Hinn.out k t (by rw [← Hl.out, List.getElem?_map, hlt]; rfl)
      obtain ⟨⟨ax, ay⟩, hax⟩ := at_lt (l := t.inn) (k := 0) (by omega)
      rcases g1.2 with ⟨_, h0⟩ | ⟨rb, cb, cur, hv1, hrbB, hrb, _⟩
      · omega
      subst hv1
      obtain ⟨b', off', hbe, hrbW, a0, a1⟩ := ArcsAt.at_ (OwnA.at_ g1) hax
      injection hbe with hbe
      injection hbe with hbe1 hbe2 _
      subst hbe1 hbe2
      simp only [Nat.zero_mul, Nat.zero_add] at a0 a1
      have fza : ∀ j, w6.frozen? ⟨rb, j, none⟩ = false := fun j => World.ownsRow.frozenAt g1 j
      obtain ⟨ln, hln⟩ : ∃ ln, ln = t.inn.length := ⟨_, rfl⟩
      have hlnp : 0 < ln := by omega
      have Hlt := Lib.hid hlt
      have Hax := Lib.hid hax
      have G2 := Lib.hid g2
      have G3 := Lib.hid g3
      rw [← hln] at e3 Hlt
      have Hln := Lib.hid hln
      obtain ⟨av2, nv2, cv2, hv2⟩ := own_form3 g2
      obtain ⟨av3, nv3, cv3, hv3⟩ := own_form3 g3
      subst hv2 hv3
      clear hlt hax g1 g2 g3 hln hrb
      obtain ⟨u1, w7, hr1, ho1, hb1⟩ := run_clone_arcs 40 (OwnA.at_ G3.out) (by omega)
      obtain ⟨u1a, u1n, u1c, rfl⟩ := own_form3 ho1
      obtain ⟨u2, w8, hr2, ho2, hk2, _⟩ := run_push_arc 40 n 1 ho1 (by omega) hb1.size
      obtain ⟨u2a, u2n, u2c, rfl⟩ := own_form3 ho2
      have hb2 : Below w6.heap.size w6 w8 := hb1.trans (hk2.below (fun k e => (Row.lt (r := arcRow (.slice u1a u1n u1c) t.out) ho1 e).1) hb1.size)
      have Hin7 := Lib.hid (Hin6.out.setOut Hlt.out hb2 ho2)
      have f5 := (below_cells hb2 rt (k * 6 + 5) hrtW).trans e5
      have f6 := (hb2.frozen (p := ⟨rt, k * 6 + 5, none⟩) hrtW).trans (fz (k * 6 + 5))
      have f7 : rt < w8.heap.size := Nat.lt_of_lt_of_le hrtW hb2.size
      clear ho1 hb1 ho2 hk2 hb2
      go_upto_region 32 with (first | (at_builtin; refine wpList_append_eq rfl (.const (.slice none 0 0)) (.tmp 129) 40 rfl rfl rfl hr1 ?_) | (at_builtin; refine wpList_append_eq rfl (.tmp 130) (.tmp 133) 40 rfl rfl rfl hr2 ?_))
      clear e0 e1 e2 e3 e4 e5 fz a0 a1 fza hrtW hrbW Hin6 f5 f6 f7 hr1 hr2
      generalize w8.setCell ⟨rt, k * 6 + 5, none⟩ (.slice u2a u2n u2c) = w9 at Hin7 ⊢
      obtain ⟨ev, q1, q2⟩ := Hin7.out.fin.calls
      have Q1 := Lib.hid (fun p : NewBy w9 => q1 p.to p.below)
      have Q2 := Lib.hid (fun p : NewBy w9 => q2 p.to p.below)
      have Hbel := Lib.hid Hin7.out.below
      have hg := Hin7.out.fin.lt
      have n0 := fun p : NewBy w9 => NewBy.cell (o := 0) hg Hin7.out.fin.c0 p
      have n1 := fun p : NewBy w9 => NewBy.cell (o := 1) hg Hin7.out.fin.c1 p
      clear q1 q2
      go_wp2
      clear hii hz
      try clear hki
      refine wp_region_new (by kernel_rfl) (by kernel_rfl) ?_
      repeat (go_big_quiet_step (first | (go_at_call 12; exact Calls.new_of (Q1.out _)) | (go_at_call 13; exact Calls.new_of (Q2.out _))))
      refine wpQuiet_nil ?_
      intro wz hzz
      obtain ⟨pz, hzz⟩ := hzz
      subst hzz
      go_wp2
      go_ret
      exact ⟨by simp, Hbel.out.trans (pz.below.mono Hbel.out.size)⟩
  · have hcz : 9 = 9 := rfl
    clear hcz
    go_upto_region 14 with (fail)
    clear c0 c1 fz m0 m1 hrW
    have Hin5 := Hin4
    clear Hin4
    generalize w4 = w5 at Hin5 ⊢
    have m0 := Hin5.out.fin.c0
    have m1 := Hin5.out.fin.c1
    have hg5 := Hin5.out.fin.lt
    by_cases ht0 : nt = 0
    · have ht0i : ¬ (0 : Int) < (nt : Int) := by omega
      have ht0n : ¬ 0 < nt := by omega
      have ht0b : decide (0 < nt) = false := decide_eq_false ht0n
      clear ht0
      go_upto_region 32 with (fail)
      clear m0 m1 hg5
      obtain ⟨ev, q1, q2⟩ := Hin5.out.fin.calls
      have Q1 := Lib.hid (fun p : NewBy w5 => q1 p.to p.below)
      have Q2 := Lib.hid (fun p : NewBy w5 => q2 p.to p.below)
      have Hbel := Lib.hid Hin5.out.below
      have hg := Hin5.out.fin.lt
      have n0 := fun p : NewBy w5 => NewBy.cell (o := 0) hg Hin5.out.fin.c0 p
      have n1 := fun p : NewBy w5 => NewBy.cell (o := 1) hg Hin5.out.fin.c1 p
      clear q1 q2
      go_wp2
      clear hii hz
      try clear hki
      refine wp_region_new (by kernel_rfl) (by kernel_rfl) ?_
      repeat (go_big_quiet_step (first | (go_at_call 12; exact Calls.new_of (Q1.out _)) | (go_at_call 13; exact Calls.new_of (Q2.out _))))
      refine wpQuiet_nil ?_
      intro wz hzz
      obtain ⟨pz, hzz⟩ := hzz
      subst hzz
      go_wp2
      go_ret
      exact ⟨by simp, Hbel.out.trans (pz.below.mono Hbel.out.size)⟩
    · have htp : 0 < nt := by omega
      have htpi : (0 : Int) < (nt : Int) := by omega
      obtain ⟨k, hk⟩ : ∃ k, k = A % nt := ⟨_, rfl⟩
      have hkt : k < nt := by rw [hk]; exact Nat.mod_lt _ htp
      have hki : (A : Int) % (nt : Int) = (k : Int) := by rw [hk]; rfl
      have hkti : (k : Int) < (nt : Int) := by omega
      clear hk
      obtain ⟨rt, t0, v10, v20, v30, hat, _⟩ := Hin5.out.trans hkt
      subst hat
      go_wp2
      go_quiet (fail)
      have Hin6 := Lib.hid (Hin5.out.go (W' := w5.drewN nq) ⟨rfl, rfl, rfl, Nat.le_refl _, fun _ _ => rfl⟩)
      clear Hin5 m0 m1 hg5
      generalize w5.drewN nq = w6 at Hin6 ⊢
      obtain ⟨rt', t, v1, v2, v3, hat, hrtB, hrtW, hlt, e0, e1, e2, e3, e4, e5, fz, g1, g2, g3⟩ := Hin6.out.trans hkt
      injection hat with hat
      injection hat with hat _ _
      subst hat
      obtain ⟨htl, htn, hto⟩ := Hinn.out k t (by rw [← Hl.out, List.getElem?_map, hlt]; rfl)
      obtain ⟨⟨ax, ay⟩, hax⟩ := at_lt (l := t.inn) (k := 0) (by omega)
      rcases g1.2 with ⟨_, h0⟩ | ⟨rb, cb, cur, hv1, hrbB, hrb, _⟩
      · omega
      subst hv1
      obtain ⟨b', off', hbe, hrbW, a0, a1⟩ := ArcsAt.at_ (OwnA.at_ g1) hax
      injection hbe with hbe
      injection hbe with hbe1 hbe2 _
      subst hbe1 hbe2
      simp only [Nat.zero_mul, Nat.zero_add] at a0 a1
      have fza : ∀ j, w6.frozen? ⟨rb, j, none⟩ = false := fun j => World.ownsRow.frozenAt g1 j
      obtain ⟨ln, hln⟩ : ∃ ln, ln = t.inn.length := ⟨_, rfl⟩
      have hlnp : 0 < ln := by omega
      have Hlt := Lib.hid hlt
      have Hax := Lib.hid hax
      have G2 := Lib.hid g2
      have G3 := Lib.hid g3
      rw [← hln] at e3 Hlt
      have Hln := Lib.hid hln
      obtain ⟨av2, nv2, cv2, hv2⟩ := own_form3 g2
      obtain ⟨av3, nv3, cv3, hv3⟩ := own_form3 g3
      subst hv2 hv3
      clear hlt hax g1 g2 g3 hln hrb
      have hd6 : Below w6.heap.size w6 w6.drew := below_drew (Below.refl _ _)
      obtain ⟨u1, w7, hr1, ho1, hb1⟩ := run_clone_arcs (w := w6.drew) 40 (ArcsAt.below (OwnA.at_ G2.out) hd6) (by omega)
      obtain ⟨u1a, u1n, u1c, rfl⟩ := own_form3 ho1
      have hb1' : Below w6.heap.size w6 w7 := hd6.trans hb1
      obtain ⟨u2, w8, hr2, ho2, hk2⟩ := run_append_arcs 40 ho1 (ArcsAt.below (OwnA.at_ G2.out) hb1') (by omega) hb1.size
      obtain ⟨u2a, u2n, u2c, rfl⟩ := own_form3 ho2
      have hb2 : Below w6.heap.size w6 w8 := hb1'.trans (hk2.below (fun k e => (Row.lt (r := arcRow (.slice u1a u1n u1c) t.nt) ho1 e).1) hb1'.size)
      have Hin7 := Lib.hid (Hin6.out.setNot Hlt.out hb2 ho2)
      have f4 := (below_cells hb1' rt (k * 6 + 4) hrtW).trans e4
      have f4d := (below_cells hd6 rt (k * 6 + 4) hrtW).trans e4
      have f5 := (below_cells hb2 rt (k * 6 + 4) hrtW).trans e4
      have f6 := (hb2.frozen (p := ⟨rt, k * 6 + 4, none⟩) hrtW).trans (fz (k * 6 + 4))
      have f7 : rt < w8.heap.size := Nat.lt_of_lt_of_le hrtW hb2.size
      clear ho1 hb1 hb1' ho2 hk2 hb2 hd6
      go_upto_region 31 with (fail)
      go_region_law (first | (refine step_append_eq (by rfl) (.const (.slice none 0 0)) (.tmp 143) 40 (by rfl) (by rfl) (by rfl) hr1 ?_) | (refine step_append_eq (by rfl) (.tmp 144) (.tmp 148) 40 (by rfl) (by rfl) (by rfl) hr2 ?_))
      all_goals
        clear e0 e1 e2 e3 e4 e5 fz a0 a1 fza hrtW hrbW Hin6 f4 f4d f5 f6 f7 hr1 hr2
        generalize w8.setCell ⟨rt, k * 6 + 4, none⟩ (.slice u2a u2n u2c) = w9 at Hin7 ⊢
        obtain ⟨ev, q1, q2⟩ := Hin7.out.fin.calls
        have Q1 := Lib.hid (fun p : NewBy w9 => q1 p.to p.below)
        have Q2 := Lib.hid (fun p : NewBy w9 => q2 p.to p.below)
        have Hbel := Lib.hid Hin7.out.below
        have hg := Hin7.out.fin.lt
        have n0 := fun p : NewBy w9 => NewBy.cell (o := 0) hg Hin7.out.fin.c0 p
        have n1 := fun p : NewBy w9 => NewBy.cell (o := 1) hg Hin7.out.fin.c1 p
        clear q1 q2
        go_wp2
        clear hii hz
        try clear hki
        refine wp_region_new (by kernel_rfl) (by kernel_rfl) ?_
        repeat (go_big_quiet_step (first | (go_at_call 12; exact Calls.new_of (Q1.out _)) | (go_at_call 13; exact Calls.new_of (Q2.out _))))
        refine wpQuiet_nil ?_
        intro wz hzz
        obtain ⟨pz, hzz⟩ := hzz
        subst hzz
        go_wp2
        go_ret
        exact ⟨by simp, Hbel.out.trans (pz.below.mono Hbel.out.size)⟩
end Go.Proofs.Ytjkkddocopolcaa
