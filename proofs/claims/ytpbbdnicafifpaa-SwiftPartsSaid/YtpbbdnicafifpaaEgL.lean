/-
  What Instant of the engine comes to: all that happens at one time.
  Conditions: none beyond each theorem's own.
-/
import Derived.Test.YtpbbdnicafifpaaEgK
namespace Go.Proofs.Ytpbbdnicafifpaa
open Go.RowKit
set_option linter.unusedVariables false

theorem EgAt.frozB {w0 w : World} {c : EC} {e : Eg} (h : EgAt w0 w c e) (j : Nat) : w.frozen? ⟨c.b, j, none⟩ = false := h.froz j

set_option maxRecDepth 100000 in
set_option maxHeartbeats 4000000 in
theorem einstant_any {w0 w : World} {c : EC} {e : Eg} {s : St} {mine : Nat → Bool} {n' : Nt} {t : Int} (hc : EOk c) (hE : EyesOk c mine) (haw : c.aw.length = c.n.places.length) (h : EgAt w0 w c e) (hn' : NOk n') (hI : Inv n' t s) (hP : n'.places.length = c.n.places.length) (hM : Masked c.n.trans n'.trans mine (awB c)) (hS : EgSt c mine e s) (hto : e.told.length ≤ 400000) :
    Calls Try.prog 34 #[.pointer (some ⟨c.b, 0, none⟩), .int .i64 t] w fun r w' => r = .returned (.int .i64 (instAll n'.trans t s).2) ∧ ∃ e' lg, EgAt w0 w' c e' ∧ EgSt c mine e' (instAll n'.trans t s).1 ∧ e'.t = t ∧ (instAll n'.trans t s).1.log = s.log ++ lg ∧ e'.told = e.told ++ toldOf c lg := by
  obtain ⟨A, hA⟩ : ∃ A, A = instAll n'.trans t s := ⟨_, rfl⟩
  rw [← hA]
  obtain ⟨hI1, hAf⟩ := arrive_inv hI
  obtain ⟨nt, hnt⟩ : ∃ k, k = c.n.trans.length := ⟨_, rfl⟩
  have hnt32 : nt ≤ 1000000 := by have := hc.nok.tr; omega
  have hnt2 : n'.trans.length = nt := by rw [hM.len, hnt]
  have kb := h.cells.2.2.2.2.2.2.2.2.1
  have k11 := h.cells.2.2.2.2.2.2.2.1
  have f11 := h.froz 11
  have h1 := h.time t
  have HAr := Lib.hid (fun W (hW : EgAt w0 W c {e with t := t}) => earrive_any (t0 := t) hc hE hW (s := s) ⟨hS.heap, hS.perm, hS.m, hS.log, hS.way, hS.rq, hS.cov⟩ hI hP)
  have H1 := Lib.hid h1
  have HA := Lib.hid hA
  have HI1 := Lib.hid hI1
  have HAf := Lib.hid hAf
  have HC := Lib.hid hc
  have HEy := Lib.hid hE
  have Haw := Lib.hid haw
  have HN := Lib.hid hn'
  have HP := Lib.hid hP
  have HM := Lib.hid hM
  have Hto := Lib.hid hto
  have Hnt := Lib.hid hnt
  have Hnt2 := Lib.hid hnt2
  clear hA hI1 hAf hc hE haw h hn' hI hP hM hS hto hnt hnt2 h1
  go_enter Try.func34, Try.ntmps34
  go_wp2_with fail
  clear k11 f11 kb
  revert H1
  generalize (w.setCell ⟨c.b, 11, none⟩ (.int .i64 t)) = V
  intro H1
  refine (HAr.out _ H1.out).mono ?_
  rintro r w1 ⟨rfl, e1, h2, h3, h4, h5⟩
  obtain ⟨w2, hmk, ho2, hb2⟩ := run_make_ints nt hnt32 w1
  have k1 := h2.cells.2.1
  have kb := h2.cells.2.2.2.2.2.2.2.2.1
  obtain ⟨g, off, ct, evt⟩ : ∃ (a : Option Addr) (b : Nat) (cap : Nat), c.vt = .slice a c.n.trans.length cap ∧ b = 0 := by
    obtain ⟨a1, np, c1, a2, nt2, c2, e1, e2, hnp, hnt3⟩ := (h2.net HC.out.l).form2
    exact ⟨a2, 0, c2, by rw [e2, hnt3], rfl⟩
  rw [evt.1, ← Hnt.out] at k1
  have h6 := h2.plus hb2 (r := intRow (.slice (some ⟨w1.heap.size, 0, none⟩) nt nt) (List.replicate nt 0)) (own_mono (by rw [intRow]; exact ho2) h2.low.size) (fun k e => by injection e with e; subst e; exact Nat.le_refl _)
  obtain ⟨fb, hfb⟩ : ∃ k, k = w1.heap.size := ⟨_, rfl⟩
  rw [← hfb] at hmk h6
  have H6 := Lib.hid h6
  have H3 := Lib.hid h3
  have H4 := Lib.hid h4
  have H5 := Lib.hid h5
  clear h2 h3 h4 h5 h6 ho2 hb2 hfb HAr H1 evt
  go_wp2
  clear hmk k1 kb
  go_loopg [6, 7] 2001 (fun k s6 s7 wr => ∃ (cs : List Int) (u : St) (e2 : Eg) (lg : List (Int × Int)), EgAt w0 wr (c.plus (intRow (.slice (some ⟨fb, 0, none⟩) nt nt) cs)) e2 ∧ EgSt c mine e2 u ∧ e2.t = t ∧ u.log = s.log ++ lg ∧ e2.told = e.told ++ toldOf c lg ∧ cs.length = nt ∧ (∀ z ∈ cs, 0 ≤ z) ∧ Inv n' t u ∧ After t u ∧ 2001 ≤ k + u.log.length ∧ Hid (A = inst n'.trans t k cs u))
  case atStart => exact ⟨List.replicate nt 0, arrive t s, e1, [], H6.out, H3.out, H4.out, by rw [List.append_nil]; rfl, by rw [H5.out]; simp [toldOf], by simp, fun z hz => by rw [List.eq_of_mem_replicate hz]; exact Int.le_refl _, HI1.out, HAf.out, by omega, Lib.hid (by rw [HA.out]; unfold instAll; rw [Hnt2.out])⟩
  case round =>
    rename World => v1
    obtain ⟨cs, u, e2, lg, hR, hS, ht, hlg, htd, hcl, hc0, hI, hAf, hk, HK⟩ := hrel
    have hll := hI.ll
    obtain ⟨k, rfl⟩ : ∃ k, gk = k + 1 := ⟨gk - 1, by omega⟩
    obtain ⟨bst, hbst⟩ : ∃ q, q = bestTo e2.m n'.trans n'.trans.length := ⟨_, rfl⟩
    have hml : e2.m.length = c.n.places.length := by rw [hS.m, hI.len]; exact HP.out
    have HB := Lib.hid (ebest_any (HC.out.plus (intRow (.slice (some ⟨fb, 0, none⟩) nt nt) cs)) hR HM.out hS.rq hS.cov hml bst hbst)
    have hbst' : bst = bestTo u.m n'.trans n'.trans.length := by rw [hbst, hS.m]
    have HS := Lib.hid hS
    have Ht := Lib.hid ht
    have Hlg := Lib.hid hlg
    have Htd := Lib.hid htd
    have Hcl := Lib.hid hcl
    have Hc0 := Lib.hid hc0
    have HI := Lib.hid hI
    have Haf := Lib.hid hAf
    have Hk : Hid (2001 ≤ k + 1 + u.log.length) := Lib.hid hk
    have Hb := Lib.hid hbst'
    clear hR hS ht hlg htd hcl hc0 hI hAf hk hll hbst hml hbst' H6 H3 H4 H5 HA HI1 HAf
    go_wp2_with fail
    refine HB.out.mono ?_
    rintro r w4 ⟨rfl, R, qd, hr4, hc4, h4, hmn⟩
    have hS4 : EgSt c mine {e2 with rdy := R, qd := qd} u := ⟨HS.out.heap, HS.out.perm, HS.out.m, HS.out.log, HS.out.way, hr4, hc4⟩
    have HS4 := Lib.hid hS4
    have H4 := Lib.hid h4
    clear hr4 hc4 h4 hS4 HB
    by_cases hneg : bst < 0
    · have HE : Hid (A = (u, 0)) := Lib.hid (by rw [HK.out]; exact inst_stop (by rw [← Hb.out]; exact hneg))
      clear hmn
      go_wp2
      go_ret
      rw [HE.out]
      exact ⟨rfl, _, lg, H4.out.minus, HS4.out, Ht.out, Hlg.out, Htd.out⟩
    · have hnegb : decide (bst < 0) = false := decide_eq_false hneg
      obtain ⟨bn, rfl⟩ : ∃ q : Nat, bst = q := ⟨bst.toNat, by omega⟩
      obtain ⟨x', hx', hm⟩ := bestTo_may u.m n'.trans n'.trans.length (by rw [← Hb.out]; omega)
      rw [← Hb.out, Int.toNat_natCast] at hx'
      have hmi := (hmn (by omega)).2
      rw [Int.toNat_natCast] at hmi
      have hbn : bn < nt := by rw [← Hnt2.out]; exact lt_at hx'
      have hbi : (bn : Int) < (nt : Int) := by omega
      obtain ⟨x, hx⟩ := at_lt (l := c.n.trans) (k := bn) (by rw [← Hnt.out]; exact hbn)
      obtain ⟨x2, hx2, m1, m2, m3, m4, m5⟩ := HM.out.own bn x hmi hx
      obtain rfl : x' = x2 := by rw [hx'] at hx2; injection hx2
      obtain ⟨cb, hcb⟩ := at_lt (l := cs) (k := bn) (by rw [Hcl.out]; exact hbn)
      have hget : getI cs bn = cb := getI_at hcb
      have hF : OwnI w0.heap.size w4 (.slice (some ⟨fb, 0, none⟩) nt nt) cs := H4.out.beside
      have c0 := hF.cell hcb
      have f0 := hF.froz bn
      have fl := hF.lt.2
      have hRf := erefuse_any (f := cb) (q := refuseN u cb) (HC.out.plus (intRow (.slice (some ⟨fb, 0, none⟩) nt nt) cs)) H4.out hx (by have := HI.out.tb; have := HI.out.ll; have := Ht.out; show 0 ≤ e2.t ∧ e2.t ≤ _; omega) (by show _ = refuseL e2.log.length cb; rw [HS.out.log]; rfl)
      have HRf := Lib.hid hRf
      have Hcb := Lib.hid hcb
      have Hcb0 := Lib.hid (Hc0.out cb (List.mem_of_getElem? hcb))
      have Hx := Lib.hid (And.intro hx (And.intro hx2 (And.intro m1 (And.intro m2 (And.intro m4 (And.intro m5 hm))))))
      by_cases hr : refuseN u cb = 0
      · obtain ⟨hgo, hc20, hl⟩ := inst_go (t := t) (k := k) (c := cs) Hb.out.symm hx' (by rw [hget]; exact hr)
        rw [hget] at hgo hc20
        have HK2 := Lib.hid (HK.out.trans hgo)
        rw [hr] at HRf
        have Hl := Lib.hid hl
        clear hRf hF hx hx' hx2 m1 m2 m3 m4 m5 hm hcb hget hgo hl hr hmi hmn
        go_wp2_with fail
        refine HRf.out.mono ?_
        rintro r w6 ⟨rfl, hb6⟩
        have h6 := H4.out.go hb6
        have hF : OwnI w0.heap.size w6 (.slice (some ⟨fb, 0, none⟩) nt nt) cs := h6.beside
        clear c0 f0 fl
        have c0 := hF.cell Hcb.out
        have f0 := hF.froz bn
        have fl := hF.lt.2
        have hst := hF.set bn (wrap64 (cb + 1)) (by rw [Hcl.out]; exact hbn)
        have h7 := h6.turnR (r' := intRow (.slice (some ⟨fb, 0, none⟩) nt nt) (cs.set bn (wrap64 (cb + 1)))) (hst.2.mono (fun j _ e => by subst e; rfl)) hst.1 rfl
        have hfi := fun W (hW : EgAt w0 W (c.plus (intRow (.slice (some ⟨fb, 0, none⟩) nt nt) (cs.set bn (wrap64 (cb + 1))))) {e2 with rdy := R, qd := qd}) => efire_any (s := u) (n' := n') (x := x) (x' := x') (i := bn) (HC.out.plus _) (HEy.out.plus _) Haw.out hW HN.out (by show Inv n' e2.t u; rw [Ht.out]; exact HI.out) (by show After e2.t u; rw [Ht.out]; exact Haf.out) HP.out Hx.out.1 Hx.out.2.1 Hx.out.2.2.1 Hx.out.2.2.2.1 Hx.out.2.2.2.2.2.1 Hx.out.2.2.2.2.1 Hx.out.2.2.2.2.2.2 Hl.out (HS4.out.plus _) (by
          show e2.told.length ≤ _
          have h1 := toldOf_len HC.out.nok lg
          have h2 := HI.out.ll
          have h3 := Hto.out
          rw [Hlg.out, List.length_append] at h2
          rw [Htd.out, List.length_append]
          omega)
        have Hfi := Lib.hid (hfi _ h7)
        clear hb6 h6 hF hst h7 HRf H4 hfi
        go_wp2_with fail
        refine Hfi.out.mono ?_
        rintro r w8 ⟨rfl, e3, h8, h9, h10, h11⟩
        have H8 := Lib.hid h8
        have H9 := Lib.hid h9
        have H10 := Lib.hid h10
        have H11 := Lib.hid h11
        clear h8 h9 h10 h11 Hfi c0 f0 fl
        go_wp2
        go_roundg k
        case measure => omega
        case rel =>
          obtain ⟨i1, i2⟩ := arrive_inv (fired_inv HN.out HI.out (i := bn) Hx.out.2.1 Hx.out.2.2.2.2.2.2 Hl.out)
          have hwr : wrap64 (cb + 1) = cb + 1 := IntWalk.wrap64_in _ (by have := Hcb0.out; omega)
          have ht2 : e3.t = t := H10.out.trans Ht.out
          have h9 := H9.out.minus
          have hfe : ({e2 with rdy := R, qd := qd} : Eg).t = t := Ht.out
          rw [hfe] at h9
          have h11 := H11.out
          rw [hfe] at h11
          refine ⟨cs.set bn (cb + 1), fire t bn x' u, e3, lg ++ [(t, (bn : Int))], by have := H8.out; rwa [hwr] at this, h9, ht2, by rw [fire_log, Hlg.out, List.append_assoc], ?_, by rw [List.length_set]; exact Hcl.out, ?_, i1, i2, by rw [fire_log, List.length_append, List.length_singleton]; have := Hk.out; omega, HK2⟩
          · rw [toldOf_snoc Hx.out.1, ← List.append_assoc, ← Htd.out]; exact h11
          · intro z hz
            rcases List.mem_or_eq_of_mem_set hz with h1 | h1
            · exact Hc0.out z h1
            · have := Hcb0.out; omega
      · have HE : Hid (A = (u, refuseN u cb)) := Lib.hid (by rw [HK.out]; have := inst_ref (ts := n'.trans) (t := t) (k := k) (c := cs) Hb.out.symm (by rw [hget]; exact hr); rw [hget] at this; exact this)
        obtain ⟨q, hq⟩ : ∃ q, q = refuseN u cb := ⟨_, rfl⟩
        rw [← hq] at HRf HE hr
        have hrb : (q == 0) = false := by simpa using hr
        clear hRf hF hx hx' hx2 m1 m2 m3 m4 m5 hm hcb hget hmi hmn hq
        go_wp2_with fail
        refine HRf.out.mono ?_
        rintro r w6 ⟨rfl, hb6⟩
        have H6 := Lib.hid (H4.out.go hb6)
        clear hb6 c0 f0 fl
        go_wp2
        go_ret
        rw [HE.out]
        exact ⟨rfl, _, lg, H6.out.minus, HS4.out, Ht.out, Hlg.out, Htd.out⟩
end Go.Proofs.Ytpbbdnicafifpaa
