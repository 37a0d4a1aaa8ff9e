/-
  The walk of the law MatrixRuns: what a run comes to is what was there, and what its firings change, by how often each has fired.
  Conditions: none beyond the theorems' own.
-/
import Derived.Test.YtpbbdnicafifpaaMxJ
import Derived.Test.YtpbbdnicafifpaaFew11
import Derived.Test.YtpbbdnicafifpaaR9R
import Derived.Test.YtpbbdnicafifpaaRunJ
namespace Go.Proofs.Ytpbbdnicafifpaa
open Go.RowKit
set_option linter.unusedVariables false

set_option maxRecDepth 100000 in
set_option maxHeartbeats 4000000 in
theorem mruns_big {w : World} {aT aA : Option Addr} {cTok cA nT nA : Nat} {hz : Nat} (h : 60 < nT ∨ 12 < nA) :
    Calls Try.prog 6 #[.agg #[.slice aT nT cTok, .slice aA nA cA], .int .u8 hz] w fun e w' => e = .returned (.bool true) ∧ Below w.heap.size w w' := by
  have Hfew : Hid (false = (decide (nT ≤ 60) && decide (nA ≤ 12))) := Lib.hid (by rcases h with h | h <;> simp <;> omega)
  clear h
  go_enter Try.func6, Try.ntmps6
  go_wp2_with fail
  refine (awake11 _).mono ?_
  rintro e w1 ⟨rfl, hb⟩
  have hi := (InBx.start 25 w (.slice aT nT cTok) (.slice aA nA cA)).go hb
  have b0 := hi.c0
  have b1 := hi.c1
  have Hi := Lib.hid hi
  clear hb hi
  go_wp2_with fail
  refine (few11_any false Hfew.out).mono ?_
  rintro e w2 ⟨rfl, hb2⟩
  have Hi2 := Lib.hid (Hi.out.go hb2)
  clear b0 b1 hb2
  go_wp2_with fail
  refine (awake11 _).mono ?_
  rintro e w3 ⟨rfl, hb3⟩
  have Hi3 := Lib.hid (Hi2.out.go hb3)
  clear hb3
  go_wp2
  go_ret
  exact ⟨rfl, Hi3.out.old⟩

set_option maxRecDepth 100000 in
set_option maxHeartbeats 4000000 in
theorem mruns_small {w : World} {aT aA : Option Addr} {cTok cA : Nat} {hz : Nat} {ts : List Nat} {acs : List Ac} (h : DraftAt w (.slice aT ts.length cTok) (.slice aA acs.length cA) ts acs) (h60 : ts.length ≤ 60) (h12 : acs.length ≤ 12) :
    Calls Try.prog 6 #[.agg #[.slice aT ts.length cTok, .slice aA acs.length cA], .int .u8 hz] w fun e w' => e = .returned (.bool true) ∧ Below w.heap.size w w' := by
  have Hmake : Hid (∀ W : World, Below w.heap.size w W → Calls Try.prog 16 #[.agg #[.slice aT ts.length cTok, .slice aA acs.length cA]] W fun e w' => ∃ vp vt, e = .returned (.agg #[vp, vt]) ∧ NetOwn W.heap.size w' vp vt (makeN ts acs) ∧ Below W.heap.size W w') := Lib.hid (fun W hW => make_any (h.below hW))
  have Hchk := Lib.hid (makeN_check (ts := ts) h.ok)
  have Hnm := Lib.hid (makeN_names9 ts acs)
  have Hpos : Hid (1 ≤ (makeN ts acs).places.length) := Lib.hid (by have := cntP_bd ts; rw [show (makeN ts acs).places.length = cntP ts from plsOf_len _ _]; omega)
  obtain ⟨N, hN⟩ : ∃ N, N = makeN ts acs := ⟨_, rfl⟩
  rw [← hN] at Hmake Hchk Hnm Hpos
  obtain ⟨nT, hnT⟩ : ∃ k, k = ts.length := ⟨_, rfl⟩
  obtain ⟨nA, hnA⟩ : ∃ k, k = acs.length := ⟨_, rfl⟩
  rw [← hnT, ← hnA] at Hmake ⊢
  have Hfew : Hid (true = (decide (nT ≤ 60) && decide (nA ≤ 12))) := Lib.hid (by simp; omega)
  clear h hnT hnA h60 h12 hN
  go_enter Try.func6, Try.ntmps6
  go_wp2_with fail
  refine (awake11 _).mono ?_
  rintro e w1 ⟨rfl, hb⟩
  have hi := (InBx.start 25 w (.slice aT nT cTok) (.slice aA nA cA)).go hb
  have b0 := hi.c0
  have b1 := hi.c1
  have Hi := Lib.hid hi
  clear hb hi
  go_wp2_with fail
  refine (few11_any true Hfew.out).mono ?_
  rintro e w2 ⟨rfl, hb2⟩
  clear b0 b1
  have hi := Hi.out.go hb2
  have b0 := hi.c0
  have b1 := hi.c1
  have Hi2 := Lib.hid hi
  clear hb2 hi
  go_wp2_with fail
  refine (Hmake.out _ Hi2.out.old).mono ?_
  rintro e w3 ⟨vp, vt, rfl, hno, hb3⟩
  have hna := hno.at_
  obtain ⟨a1, np, c1, a2, nt, c2, rfl, rfl, hnp, hnt⟩ := hna.form2
  have Hi3 := Lib.hid (Hi2.out.go hb3)
  have hnew : Below w3.heap.size w3 (w3.alloc (.cells #[.slice a1 np c1, .slice a2 nt c2] 31)) := (Below.refl _ _).alloc (Nat.le_refl _) _
  have Hnew := Lib.hid hnew
  have HB3 := Lib.hid Hi3.out.old
  have Hna3 := Lib.hid hna
  have Hnt := Lib.hid hnt
  have Hnp := Lib.hid hnp
  clear hno hb3 b0 b1 hna hnew hnt hnp
  have Hr9 := Lib.hid (fun W (hW : Below w3.heap.size w3 W) => rrun_any (w := W) (h := (hz : Int) % 30) Hnp.out Hnt.out (Hna3.out.below hW) (checkN_nok Hchk.out))
  have hI := runN_inv (checkN_nok Hchk.out) ((hz : Int) % 30)
  have hlok := runN_log (checkN_nok Hchk.out) (h := (hz : Int) % 30)
  have hsum := runN_sums (checkN_nok Hchk.out) ((hz : Int) % 30)
  obtain ⟨A, hA⟩ : ∃ A, A = runN N ((hz : Int) % 30) := ⟨_, rfl⟩
  rw [← hA] at hI hlok hsum Hr9
  obtain ⟨u, tp, ep⟩ := A
  simp only at hI hlok hsum Hr9
  have HI := Lib.hid hI
  have Hlok := Lib.hid hlok
  have Hsum := Lib.hid hsum
  clear hA hI hlok hsum
  go_wp2_with fail
  refine (Hr9.out _ Hnew.out).mono ?_
  rintro e w5 ⟨al, nl, cl, am, cm, aw, cw, rfl, hnl, ⟨r1, r2, r3⟩, hb5⟩
  simp only [resV]
  have hp32 : np ≤ 32 := by rw [Hnp.out]; exact (checkN_nok Hchk.out).pl
  have ht32 : nt ≤ 32 := by rw [Hnt.out]; exact (checkN_nok Hchk.out).tr
  have hb35 : Below w3.heap.size w3 w5 := Hnew.out.trans (hb5.mono Hnew.out.size)
  obtain ⟨w6, hw6⟩ : ∃ w6, w6 = w5.alloc (.cells #[.slice al nl cl, .slice am np cm, .slice aw np cw, .int .i64 tp] 51) := ⟨_, rfl⟩
  have hb6 : Below w5.heap.size w5 w6 := by rw [hw6]; exact (Below.refl _ _).alloc (Nat.le_refl _) _
  have hz6 : w6.heap.size = w5.heap.size + 1 := by rw [hw6]; simp
  have hz5 : w3.heap.size < w5.heap.size := by have := hb5.size; simp at this; omega
  have q0 : w6.cell? ⟨w5.heap.size, 0, none⟩ = some (.slice al nl cl) := by rw [hw6]; go_simp
  have q1 : w6.cell? ⟨w5.heap.size, 1, none⟩ = some (.slice am np cm) := by rw [hw6]; go_simp
  have q2 : w6.cell? ⟨w5.heap.size, 2, none⟩ = some (.slice aw np cw) := by rw [hw6]; go_simp
  have hn0 : (w3.alloc (.cells #[.slice a1 np c1, .slice a2 nt c2] 31)).cell? ⟨w3.heap.size, 0, none⟩ = some (.slice a1 np c1) := by go_simp
  have hn1 : (w3.alloc (.cells #[.slice a1 np c1, .slice a2 nt c2] 31)).cell? ⟨w3.heap.size, 1, none⟩ = some (.slice a2 nt c2) := by go_simp
  have hb56 := hb5.trans (hb6.mono hb5.size)
  have m0 := (below_cells hb56 w3.heap.size 0 (by simp)).trans hn0
  have m1 := (below_cells hb56 w3.heap.size 1 (by simp)).trans hn1
  obtain ⟨w7, hmk, ho7, hb7⟩ := run_make_ints nt (by omega) w6
  have hs36 : w3.heap.size < w6.heap.size := by omega
  have hs56 : w5.heap.size < w6.heap.size := by omega
  have Q0 := Lib.hid q0
  have Q1 := Lib.hid q1
  have Q2 := Lib.hid q2
  have M0 := Lib.hid m0
  have M1 := Lib.hid m1
  have R1 := Lib.hid (FisAt.below r1 hb6)
  have R2 := Lib.hid (IntsAt.below r2 hb6)
  have R3 := Lib.hid (IntsAt.below r3 hb6)
  have Hnl := Lib.hid hnl
  have Hw6 := Lib.hid hw6
  rw [hz6] at ho7
  have Ho7 := Lib.hid ho7
  have hz6a : w6.heap.size ≤ w5.heap.size + 1 := by omega
  have Hb7 := Lib.hid hb7
  have Hna6 := Lib.hid ((Hna3.out.below hb35).below hb6)
  have HB6 := Lib.hid (HB3.out.trans ((hb35.trans (hb6.mono hb35.size)).mono HB3.out.size))
  rw [hw6] at hmk
  have hmk' := hmk
  clear hmk r1 r2 r3 hnl hb5 hb6 hb35 hb56 hn0 hn1 ho7 hb7 q0 q1 q2 m0 m1 Hr9
  rw [hw6] at hz6 hs36 hs56
  have m1 : (w5.alloc (.cells #[.slice al nl cl, .slice am np cm, .slice aw np cw, .int .i64 tp] 51)).cell? ⟨w3.heap.size, 1, none⟩ = some (.slice a2 nt c2) := by rw [← Hw6.out]; exact M1.out
  clear hw6
  go_wp2
  clear hmk' m1
  have hs36' : w3.heap.size < w6.heap.size := by rw [Hw6.out]; exact hs36
  have hs56' : w5.heap.size < w6.heap.size := by rw [Hw6.out]; exact hs56
  clear hs36 hs56 hz6
  try rw [← Hw6.out]
  go_loopw [9] (fun i wr => ∃ k : Nat, k ≤ nl ∧ i = .int .i64 k ∧ OwnI (w5.heap.size + 1) wr (.slice (some ⟨w5.heap.size + 1, 0, none⟩) nt nt) (rowF nt (cntL (u.log.take k))) ∧ Below w6.heap.size w6 wr) (fun i _ => nl - (intOf i).toNat)
  case atStart => exact ⟨0, by omega, rfl, by have := Ho7.out; rw [rowF_zero] at this; exact this, Hb7.out⟩
  case round =>
    rename World => v1
    obtain ⟨k, hk, rfl, ho, hb⟩ := hrel
    have q0 := (hb.cell (p := ⟨w5.heap.size, 0, none⟩) hs56').trans Q0.out
    have hll : nl ≤ 2000 := by rw [Hnl.out]; exact HI.out.ll
    by_cases hlt : k < nl
    · have hlti : (k : Int) < (nl : Int) := by omega
      obtain ⟨⟨xt, xi⟩, hx⟩ := at_lt (l := u.log) (k := k) (by rw [← Hnl.out]; exact hlt)
      obtain ⟨bl, ol, rfl, hbl, e0, e1⟩ := FisAt.at_ (FisAt.below R1.out hb) hx
      obtain ⟨_, _, _, hx0, hx1, _⟩ := Hlok.out k _ hx
      simp only at hx0 hx1
      rw [← Hnt.out] at hx1
      obtain ⟨q, rfl⟩ : ∃ q : Nat, xi = q := ⟨xi.toNat, by omega⟩
      have hqn : q < nt := by omega
      have c0 := ho.cell (rowF_get (cntL (u.log.take k)) hqn)
      have f0 := ho.froz q
      have hlt2 := ho.lt.2
      have hcb := cntL_bd q (u.log.take k)
      have hcl : (u.log.take k).length ≤ 2000 := by rw [List.length_take]; omega
      have hst := ho.set q (cntL (u.log.take k) q + 1) (by rw [rowF_len]; exact hqn)
      rw [rowF_set] at hst
      have Hst := Lib.hid (show OwnI (w5.heap.size + 1) (v1.setCell ⟨w5.heap.size + 1, q, none⟩ (.int .i64 (cntL (u.log.take k) q + 1))) (.slice (some ⟨w5.heap.size + 1, 0, none⟩) nt nt) (rowF nt (cntL (u.log.take (k + 1)))) by
        have := hst.1
        rwa [rowF_congr (g := cntL (u.log.take (k + 1))) fun j hj => by
          rw [cntL_take hx]
          simp only
          by_cases e : j = q
          · subst e; rw [if_pos rfl, if_pos rfl]
          · rw [if_neg e, if_neg (by omega)]; omega] at this)
      have Hb := Lib.hid (hb.trans (hst.2.below (fun j e => by omega) hb.size))
      have hc1 : 0 ≤ cntL (u.log.take k) q := hcb.1
      have hc2 : cntL (u.log.take k) q ≤ 2000 := by omega
      clear hst hx ho hb hcb hcl
      generalize cntL (u.log.take k) q = z0 at *
      go_wp2
      go_roundw
      case rel => exact ⟨k + 1, by omega, by go_num, Hst.out, Hb.out⟩
      case measure => simp [intOf]; omega
    · have hge : ¬ (k : Int) < (nl : Int) := by omega
      have hall : u.log.take k = u.log := List.take_of_length_le (by rw [← Hnl.out]; omega)
      rw [hall] at ho
      have m0 := (hb.cell (p := ⟨w3.heap.size, 0, none⟩) hs36').trans M0.out
      have m1 := (hb.cell (p := ⟨w3.heap.size, 1, none⟩) hs36').trans M1.out
      have Hof := Lib.hid (of_any Hnp.out Hnt.out (Hna6.out.below hb) (checkN_nok Hchk.out))
      have hcnt : ∀ j, 0 ≤ cntL u.log j ∧ cntL u.log j ≤ 2000 := fun j => by have := cntL_bd j u.log; have := HI.out.ll; omega
      have hgood : ∀ i, i < np → goodR nt (chT N.trans) (rowF nt (cntL u.log)) i ∧ dvR nt (chT N.trans) (rowF nt (cntL u.log)) i = sumF nt (fun k => chT N.trans i k * cntL u.log k) := fun i hi => by
        have e := dots_rows nt (chT N.trans i) (cntL u.log) (by omega) (fun k hk => mul_bd (chT_bd (checkN_nok Hchk.out) i k) (hcnt k))
        exact ⟨⟨(rowF_len _ _).symm, by rw [e]; rfl⟩, by unfold dvR; rw [e]; rfl⟩
      have hright := fun (W : World) (b : Nat) (hW : Below v1.heap.size v1 W) (hm : MatOwn v1.heap.size W (.slice (some ⟨b, 0, none⟩) np np) np nt (chT N.trans)) => right_any (xl := rowF nt (cntL u.log)) hm.at_ (rowF_len _ _).symm (ho.at_.below hW) (by omega) (by omega) (by omega) (fun i k _ _ => by have := chT_bd (checkN_nok Hchk.out) i k; unfold I64; omega) (fun x hx => by
        unfold rowF at hx
        obtain ⟨j, _, rfl⟩ := List.mem_map.1 hx
        have := hcnt j
        unfold I64; omega)
      have Hright := Lib.hid hright
      have Hgood := Lib.hid hgood
      have Hb := Lib.hid hb
      have hs3v : w3.heap.size < v1.heap.size := by have := hb.size; omega
      clear hright hgood hcnt ho hb hall
      go_wp2_with fail
      refine Hof.out.mono ?_
      rintro e w8 ⟨bm, rfl, hm8, hb8⟩
      have Hr2 := Lib.hid (Hright.out w8 bm hb8 hm8)
      have Hb8 := Lib.hid hb8
      have m0' := (hb8.cell (p := ⟨w3.heap.size, 0, none⟩) hs3v).trans m0
      have hs8 : w3.heap.size < w8.heap.size := by have := hb8.size; omega
      clear hm8 hb8 m0 m1
      go_wp2_with fail
      refine Hr2.out.mono ?_
      rintro e w9 ⟨hres, hb9⟩
      rcases hres with ⟨_, b9, rfl, h9⟩ | ⟨⟨i, hi, hbad⟩, _⟩
      · have hb69 : Below w6.heap.size w6 w9 := Hb.out.trans ((Hb8.out.trans (hb9.mono Hb8.out.size)).mono Hb.out.size)
        have m0 := (hb69.cell (p := ⟨w3.heap.size, 0, none⟩) hs36').trans M0.out
        have q1 := (hb69.cell (p := ⟨w5.heap.size, 1, none⟩) hs56').trans Q1.out
        have q2 := (hb69.cell (p := ⟨w5.heap.size, 2, none⟩) hs56').trans Q2.out
        have H9 := Lib.hid h9.at_
        have Hb9 := Lib.hid hb69
        have hs39 : w3.heap.size < w9.heap.size := by have := hb69.size; omega
        have hs59 : w5.heap.size < w9.heap.size := by have := hb69.size; omega
        have hmlen : u.m.length = np := by rw [HI.out.len, Hnp.out]
        have Hmlen := Lib.hid hmlen
        clear h9 hb69 hb9 m0' hmlen
        go_wp2
        go_loopw [12] (fun i wr => ∃ k : Nat, k ≤ np ∧ i = .int .i64 k ∧ Below w9.heap.size w9 wr) (fun i _ => np - (intOf i).toNat)
        case atStart => exact ⟨0, by omega, rfl, Below.refl _ _⟩
        case round =>
          rename World => v2
          obtain ⟨p, hp, rfl, hb2⟩ := hrel
          have Hb2 := Lib.hid hb2
          by_cases hltp : p < np
          · have hltpi : (p : Int) < (np : Int) := by omega
            have m0 := (hb2.cell (p := ⟨w3.heap.size, 0, none⟩) hs39).trans m0
            have q1 := (hb2.cell (p := ⟨w5.heap.size, 1, none⟩) hs59).trans q1
            have q2 := (hb2.cell (p := ⟨w5.heap.size, 2, none⟩) hs59).trans q2
            have hb62 : Below w6.heap.size w6 v2 := Hb9.out.trans (hb2.mono Hb9.out.size)
            obtain ⟨z1, hz1⟩ := at_lt (l := u.m) (k := p) (by rw [Hmlen.out]; exact hltp)
            obtain ⟨z2, hz2⟩ := at_lt (l := wayL u.m.length u.q) (k := p) (by rw [wayL_len, Hmlen.out]; exact hltp)
            obtain ⟨pl, hpl⟩ := at_lt (l := N.places) (k := p) (by rw [← Hnp.out]; exact hltp)
            obtain ⟨b4, o4, rfl, hb4, x1⟩ := IntsAt.at_ (IntsAt.below R2.out hb62) hz1
            obtain ⟨b5, o5, rfl, hb5, x2⟩ := IntsAt.at_ (IntsAt.below R3.out hb62) hz2
            obtain ⟨b6, o6, rfl, hb6, _, x3⟩ := PlsAt.at_ (PlsAt.below Hna6.out.1 hb62) hpl
            obtain ⟨b7, o7, e7, hb7, x4⟩ := rowAt_at (H9.out.below hb2) hltp
            injection e7 with e7
            injection e7 with e7 e7' _
            subst e7 e7'
            rw [(Hgood.out p hltp).2] at x4
            rw [Nat.zero_add] at x4
            have hS := (Hsum.out.1 p (by rw [← Hnp.out]; exact hltp))
            have hT := Hsum.out.2 u.log.length (Nat.le_refl _) p (by rw [← Hnp.out]; exact hltp)
            rw [List.take_length] at hT
            have hW := want_sum (n := N) p u.log (fun x hx => by
              obtain ⟨i, hi⟩ := List.mem_iff_getElem?.1 hx
              obtain ⟨_, _, _, h4, h5, _⟩ := Hlok.out i x hi
              exact ⟨h4, h5⟩)
            rw [← Hnt.out] at hW
            have hg1 : getI u.m p = z1 := by unfold getI; simp [List.getD, hz1]
            have hg2 : wayAt u.q p = z2 := by
              rw [← wayL_at u.m.length u.q (fun e he => by rw [HI.out.len]; exact HI.out.evs e he) p (lt_at hz1)]
              unfold getI; simp [List.getD, hz2]
            have hg3 : getI (N.places.map (·.tok)) p = pl.tok := by unfold getI; simp [List.getD, hpl]
            rw [hg1, hg2] at hS
            rw [hg3] at hW
            have hll2 := HI.out.ll
            generalize sumF nt (fun k => chT N.trans p k * cntL u.log k) = z4 at *
            have hw1 : IntKind.i64.wrap (z1 + z2) = wantAt N u.log p := by rw [← hS]; exact IntWalk.i64_in _ (by omega)
            have hw2 : IntKind.i64.wrap (pl.tok + z4) = wantAt N u.log p := by rw [hW]; exact IntWalk.i64_in _ (by omega)
            generalize wantAt N u.log p = z5 at *
            clear hz1 hz2 hpl hS hT hW hg1 hg2 hg3 hb62 hll2
            go_wp2
            go_quiet (fail)
            go_wp2
            go_roundw
            case rel => exact ⟨p + 1, by omega, by go_num, below_drews Hb2.out _⟩
            case measure => simp [intOf]; omega
          · have hgep : ¬ (p : Int) < (np : Int) := by omega
            clear hb2
            go_wp2
            go_ret
            exact ⟨rfl, HB6.out.trans ((Hb9.out.trans (Hb2.out.mono Hb9.out.size)).mono HB6.out.size)⟩
      · exact absurd (Hgood.out i hi).1 hbad

theorem mruns_law {w : World} {aT aA : Option Addr} {cTok cA : Nat} {hz : Int} (uz : (Lit.int .u8 hz).wf = true) {ts : List Nat} {acs : List Ac} (h : DraftAt w (.slice aT ts.length cTok) (.slice aA acs.length cA) ts acs) :
    Calls Try.prog 6 #[.agg #[.slice aT ts.length cTok, .slice aA acs.length cA], .int .u8 hz] w fun e w' => e = .returned (.bool true) ∧ Below w.heap.size w w' := by
  obtain ⟨hz, rfl, _⟩ := u8_nat uz
  by_cases h60 : ts.length ≤ 60
  · by_cases h12 : acs.length ≤ 12
    · exact mruns_small h h60 h12
    · exact mruns_big (.inr (by omega))
  · exact mruns_big (.inl (by omega))
end Go.Proofs.Ytpbbdnicafifpaa
