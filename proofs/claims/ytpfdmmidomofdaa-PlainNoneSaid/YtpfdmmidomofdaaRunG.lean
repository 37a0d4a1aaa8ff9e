/-
  What instant comes to: what arrives, and then the firings, one by one.
  Conditions: none beyond each theorem's own.
-/
import Derived.Test.YtpfdmmidomofdaaRunE
namespace Go.Proofs.Ytpfdmmidomofdaa
open Go.RowKit
set_option linter.unusedVariables false

section
variable {ts : List Tr} {t : Int} {k : Nat} {c : List Int} {s : St}
theorem inst_stop (h : bestTo s.m ts ts.length < 0) : inst ts t (k + 1) c s = (s, 0) := by rw [inst, if_pos h]
theorem inst_ref {b : Nat} (h : bestTo s.m ts ts.length = (b : Int)) (hr : refuseN s (getI c b) ≠ 0) : inst ts t (k + 1) c s = (s, refuseN s (getI c b)) := by
  rw [inst, h, if_neg (by omega)]
  unfold refuseN at hr ⊢
  split
  · rfl
  · split
    · rfl
    · rename_i h1 h2; rw [if_neg h1, if_neg h2] at hr; exact absurd rfl hr
theorem inst_go {b : Nat} {x : Tr} (h : bestTo s.m ts ts.length = (b : Int)) (hx : ts[b]? = some x) (hr : refuseN s (getI c b) = 0) : inst ts t (k + 1) c s = inst ts t k (c.set b (getI c b + 1)) (fire t b x s) ∧ getI c b < 20 ∧ s.log.length < 2000 := by
  unfold refuseN at hr
  have h1 : ¬ 20 ≤ getI c b := fun h1 => by rw [if_pos h1] at hr; omega
  have h2 : ¬ 2000 ≤ s.log.length := fun h2 => by rw [if_neg h1, if_pos h2] at hr; omega
  refine ⟨?_, by omega, by omega⟩
  rw [inst, h, if_neg (by omega), if_neg h1, if_neg h2]
  simp [List.getD, hx]
end

theorem fire_log (t : Int) (i : Nat) (x : Tr) (s : St) : (fire t i x s).log = s.log ++ [(t, (i : Int))] := rfl

/-- what the firings at one time leave true -/
theorem inst_inv {n : Nt} (hn : NOk n) {t : Int} : ∀ (k : Nat) (c : List Int) (s : St), Inv n t s → After t s → 2001 ≤ k + s.log.length →
    Inv n t (inst n.trans t k c s).1 ∧ After t (inst n.trans t k c s).1 ∧ ((inst n.trans t k c s).2 = 0 → bestTo (inst n.trans t k c s).1.m n.trans n.trans.length < 0)
  | 0, c, s, hI, hA, hk => by have := hI.ll; omega
  | k + 1, c, s, hI, hA, hk => by
    by_cases hb : bestTo s.m n.trans n.trans.length < 0
    · rw [inst_stop hb]; exact ⟨hI, hA, fun _ => hb⟩
    · obtain ⟨b, hbe⟩ : ∃ b : Nat, bestTo s.m n.trans n.trans.length = b := ⟨(bestTo s.m n.trans n.trans.length).toNat, by omega⟩
      obtain ⟨x, hx, hm⟩ := bestTo_may s.m n.trans n.trans.length (by omega)
      rw [hbe, Int.toNat_natCast] at hx
      by_cases hr : refuseN s (getI c b) = 0
      · obtain ⟨e, _, hl⟩ := inst_go (t := t) (k := k) hbe hx hr
        rw [e]
        obtain ⟨h1, h2⟩ := arrive_inv (fired_inv hn hI (i := b) hx hm hl)
        exact inst_inv hn k _ _ h1 h2 (by rw [fire_log, List.length_append]; simp; omega)
      · rw [inst_ref hbe hr]; exact ⟨hI, hA, fun h => absurd h hr⟩
theorem instAll_inv {n : Nt} (hn : NOk n) {t : Int} {s : St} (hI : Inv n t s) : Inv n t (instAll n.trans t s).1 ∧ After t (instAll n.trans t s).1 ∧ ((instAll n.trans t s).2 = 0 → bestTo (instAll n.trans t s).1.m n.trans n.trans.length < 0) := by
  obtain ⟨h1, h2⟩ := arrive_inv hI
  exact inst_inv hn 2001 _ _ h1 h2 (by omega)

set_option maxRecDepth 100000 in
set_option maxHeartbeats 4000000 in
theorem instant_any {n : Nt} {w0 w : World} {b bm nm cm np nt cp ct : Nat} {ap at_ : Option Addr} {t : Int} {s : St} {more : List Row} (hn : NOk n) (hI : Inv n t s) (hnm : nm = s.m.length) (hnp : np = n.places.length) (hnt : nt = n.trans.length) (hnet : NetAt w0 (.slice ap np cp) (.slice at_ nt ct) n) (h : RunAt w0 w b (.slice ap np cp) (.slice at_ nt ct) bm nm cm t s more) :
    Calls Try.prog 60 #[.pointer (some ⟨b, 0, none⟩)] w fun e w' => e = .returned (.int .i64 (instAll n.trans t s).2) ∧ RunAt w0 w' b (.slice ap np cp) (.slice at_ nt ct) bm nm cm t (instAll n.trans t s).1 more := by
  obtain ⟨A, hA⟩ : ∃ A, A = instAll n.trans t s := ⟨_, rfl⟩
  rw [← hA]
  obtain ⟨hI1, hAf⟩ := arrive_inv hI
  have hnt32 : nt ≤ 1000000 := by have := hn.tr; omega
  have HAr := Lib.hid (arrive_any hI hnm h)
  have HA := Lib.hid hA
  have HI1 := Lib.hid hI1
  have HAf := Lib.hid hAf
  have HN := Lib.hid hn
  have Hnet := Lib.hid hnet
  have Hnt := Lib.hid hnt
  have Hnm : Hid (nm = n.places.length) := Lib.hid (by rw [hnm, hI.len])
  clear hA hI1 hAf hn hI hnm hnt hnet h hnp
  go_enter Try.func60, Try.ntmps60
  go_wp2_with fail
  refine HAr.out.mono ?_
  rintro e w1 ⟨rfl, h1⟩
  obtain ⟨_, k1, _, _, kb, _⟩ := h1.cells
  obtain ⟨w2, hmk, ho2, hb2⟩ := run_make_ints nt hnt32 w1
  have h2 := h1.add hb2 (r := intRow (.slice (some ⟨w1.heap.size, 0, none⟩) nt nt) (List.replicate nt 0)) (own_mono (by rw [intRow]; exact ho2) h1.low.size) (fun k e => by injection e with e; subst e; exact Nat.le_refl _)
  have H2 := Lib.hid h2
  obtain ⟨fb, hfb⟩ : ∃ k, k = w1.heap.size := ⟨_, rfl⟩
  rw [← hfb] at hmk H2
  clear h1 h2 ho2 hb2 HAr hfb
  go_wp2
  clear hmk k1 kb
  go_loopg [4, 5] 2001 (fun k s4 s5 wr => ∃ (c : List Int) (u : St), RunAt w0 wr b (.slice ap np cp) (.slice at_ nt ct) bm nm cm t u (more ++ [intRow (.slice (some ⟨fb, 0, none⟩) nt nt) c]) ∧ c.length = nt ∧ (∀ z ∈ c, 0 ≤ z) ∧ Inv n t u ∧ After t u ∧ 2001 ≤ k + u.log.length ∧ Hid (A = inst n.trans t k c u))
  case atStart => exact ⟨List.replicate nt 0, arrive t s, H2.out, by simp, fun z hz => by rw [List.eq_of_mem_replicate hz]; exact Int.le_refl _, HI1.out, HAf.out, by omega, Lib.hid (by rw [HA.out, Hnt.out]; rfl)⟩
  case round =>
    obtain ⟨c, u, hR, hcl, hc0, hI, hAf, hk, HK⟩ := hrel
    have Hc0 := Lib.hid hc0
    have hll := hI.ll
    obtain ⟨k, rfl⟩ : ∃ k, gk = k + 1 := ⟨gk - 1, by omega⟩
    rename World => v1
    have HR := Lib.hid hR
    have HI := Lib.hid hI
    have Haf := Lib.hid hAf
    have Hcl := Lib.hid hcl
    obtain ⟨bst, hbst⟩ : ∃ q, q = bestTo u.m n.trans nt := ⟨_, rfl⟩
    clear hR hI hAf hcl hll hc0 H2 HA HI1 HAf
    go_upto_region 4 with (fail)
    go_cut [4] from 16 to 24 (fun s4 wc => s4 = .int .i64 bst ∧ RunAt w0 wc b (.slice ap np cp) (.slice at_ nt ct) bm nm cm t u (more ++ [intRow (.slice (some ⟨fb, 0, none⟩) nt nt) c]))
    case first =>
      obtain ⟨k0, k1, k3, _, kb, _⟩ := HR.out.cells
      have hd := HR.out.go (Below.refl _ _).drew
      have HB := Lib.hid (best_any Hnt.out (Hnm.out.trans HI.out.len.symm) (Hnet.out.below hd.low) hd.ints.at_ (HN.out.fits HI.out.len) bst hbst)
      have Hd := Lib.hid hd
      clear hd hbst
      go_region_law (first | (go_simp; go_at_call 84; refine HB.out.mono ?_; rintro e w5 ⟨rfl, hb5⟩; have H5 := Lib.hid (Hd.out.go hb5); clear hb5))
      all_goals
        go_wp2
        go_meet
        case rel => exact ⟨rfl, H5.out⟩
    case rest =>
      rename World => v2
      obtain ⟨rfl, h5⟩ := hcut
      have H5 := Lib.hid h5
      clear h5 HR
      by_cases hneg : bst < 0
      · have HE : Hid (A = (u, 0)) := Lib.hid (by rw [HK.out]; exact inst_stop (by rw [← Hnt.out, ← hbst]; exact hneg))
        clear hbst
        go_wp2
        go_ret
        rw [HE.out]
        exact ⟨rfl, H5.out.sub (List.sublist_append_left _ _)⟩
      · have hnegb : decide (bst < 0) = false := decide_eq_false hneg
        obtain ⟨bn, rfl⟩ : ∃ q : Nat, bst = q := ⟨bst.toNat, by omega⟩
        obtain ⟨x, hx, hm⟩ := bestTo_may u.m n.trans nt (by rw [← hbst]; omega)
        rw [← hbst, Int.toNat_natCast] at hx
        have hbn : bn < nt := by rw [Hnt.out]; exact lt_at hx
        have hbi : (bn : Int) < (nt : Int) := by omega
        have hF : OwnI w0.heap.size v2 (.slice (some ⟨fb, 0, none⟩) nt nt) c := H5.out.mem (r := intRow (.slice (some ⟨fb, 0, none⟩) nt nt) c) (by simp)
        obtain ⟨cb, hcb⟩ := at_lt (l := c) (k := bn) (by rw [Hcl.out]; exact hbn)
        have hget : getI c bn = cb := getI_at hcb
        have c0 := hF.cell hcb
        have f0 := hF.froz bn
        have fl := hF.lt.2
        have hRf := refuse_any (f := cb) (q := refuseN u cb) Hnt.out Hnet.out hx (HN.out.dly x (HN.out.at_ hx)) (by have := HI.out.tb; have := HI.out.ll; omega) H5.out rfl
        have HRf := Lib.hid hRf
        have Hx := Lib.hid hx
        have Hm := Lib.hid hm
        have Hb : Hid (bestTo u.m n.trans n.trans.length = (bn : Int)) := Lib.hid (by rw [← Hnt.out, ← hbst])
        have Hget := Lib.hid hget
        have Hcb := Lib.hid hcb
        have Hcb0 := Lib.hid (Hc0.out cb (List.mem_of_getElem? hcb))
        by_cases hr : refuseN u cb = 0
        · obtain ⟨hgo, hc20, hl⟩ := inst_go (t := t) (k := k) (c := c) Hb.out hx (by rw [hget]; exact hr)
          rw [hget] at hgo hc20
          have HK2 := Lib.hid (HK.out.trans hgo)
          rw [hr] at HRf
          have Hl := Lib.hid hl
          clear hRf hF hx hm hcb hget hbst hgo hl hr
          go_wp2_with fail
          refine HRf.out.mono ?_
          rintro e w6 ⟨rfl, hb6⟩
          have h6 := H5.out.go hb6
          have hF : OwnI w0.heap.size w6 (.slice (some ⟨fb, 0, none⟩) nt nt) c := h6.mem (r := intRow (.slice (some ⟨fb, 0, none⟩) nt nt) c) (by simp)
          clear c0 f0 fl
          have c0 := hF.cell Hcb.out
          have f0 := hF.froz bn
          have fl := hF.lt.2
          have hst := hF.set bn (wrap64 (cb + 1)) (by rw [Hcl.out]; exact hbn)
          have h7 := h6.turn (r := intRow (.slice (some ⟨fb, 0, none⟩) nt nt) c) (r' := intRow (.slice (some ⟨fb, 0, none⟩) nt nt) (c.set bn (wrap64 (cb + 1)))) (hst.2.mono (fun j _ e => by subst e; rfl)) hst.1 rfl
          have H7 := Lib.hid h7
          clear hb6 h6 hF hst h7 HRf H5
          have hfi := fire_any HN.out HI.out (Hnm.out.trans HI.out.len.symm) Hnt.out Hnet.out Hx.out Hm.out Hl.out H7.out
          have Hfi := Lib.hid hfi
          clear hfi
          go_wp2_with (go_at_call 86; refine Hfi.out.mono ?_; rintro e w8 ⟨rfl, h8⟩; have H8 := Lib.hid h8; clear h8)
          go_roundg k
          case measure => omega
          case rel =>
            obtain ⟨i1, i2⟩ := arrive_inv (fired_inv HN.out HI.out (i := bn) Hx.out Hm.out Hl.out)
            have hwr : wrap64 (cb + 1) = cb + 1 := IntWalk.wrap64_in _ (by have := Hcb0.out; omega)
            refine ⟨c.set bn (cb + 1), fire t bn x u, by have := H8.out; rwa [hwr] at this, by rw [List.length_set]; exact Hcl.out, ?_, i1, i2, by rw [fire_log, List.length_append, List.length_singleton]; omega, HK2⟩
            intro z hz
            rcases List.mem_or_eq_of_mem_set hz with h1 | h1
            · exact Hc0.out z h1
            · have := Hcb0.out; omega
        · have HE : Hid (A = (u, refuseN u cb)) := Lib.hid (by rw [HK.out]; have := inst_ref (ts := n.trans) (t := t) (k := k) (c := c) Hb.out (by rw [hget]; exact hr); rw [hget] at this; exact this)
          obtain ⟨q, hq⟩ : ∃ q, q = refuseN u cb := ⟨_, rfl⟩
          rw [← hq] at HRf HE hr
          have hrb : (q == 0) = false := by simpa using hr
          clear hRf hF hx hm hcb hget hbst hq
          go_wp2_with fail
          refine HRf.out.mono ?_
          rintro e w6 ⟨rfl, hb6⟩
          have H6 := Lib.hid (H5.out.go hb6)
          clear hb6 c0 f0 fl
          go_wp2
          go_ret
          rw [HE.out]
          exact ⟨rfl, H6.out.sub (List.sublist_append_left _ _)⟩
end Go.Proofs.Ytpfdmmidomofdaa
