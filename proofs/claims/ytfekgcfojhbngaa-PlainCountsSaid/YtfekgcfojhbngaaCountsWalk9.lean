/-
  The walk of the law PlainCounts: what is there, and on its way, is what was there, less what was taken, and what was given.
  Conditions: none beyond the theorems' own.
-/
import Derived.Test.YtfekgcfojhbngaaRunJ
import Derived.Test.YtfekgcfojhbngaaCountsM
import Derived.Test.YtfekgcfojhbngaaTimesM
import Derived.Test.YtfekgcfojhbngaaNearIn
import Derived.Deep.RegionHeld3
import Derived.BigRegion
namespace Go.Proofs.Ytfekgcfojhbngaa
open Go.RowKit
set_option linter.unusedVariables false

structure Cx (w : World) (R nb nl np nt : Nat) (al a1 a2 : Option Addr) (cl c1 c2 bm cm bw : Nat) (u : St) (N : Nt) : Prop where
  d0 : w.cell? ⟨R, 0, none⟩ = some (.slice al nl cl)
  d1 : w.cell? ⟨R, 1, none⟩ = some (.slice (some ⟨bm, 0, none⟩) np cm)
  d2 : w.cell? ⟨R, 2, none⟩ = some (.slice (some ⟨bw, 0, none⟩) np np)
  n0 : w.cell? ⟨nb, 0, none⟩ = some (.slice a1 np c1)
  n1 : w.cell? ⟨nb, 1, none⟩ = some (.slice a2 nt c2)
  rl : R < w.heap.size
  bl : nb < w.heap.size
  log : FisAt w (.slice al nl cl) u.log
  mks : IntsAt w (.slice (some ⟨bm, 0, none⟩) np cm) u.m
  wy : IntsAt w (.slice (some ⟨bw, 0, none⟩) np np) (wayL u.m.length u.q)
  net : NetAt w (.slice a1 np c1) (.slice a2 nt c2) N
theorem Cx.below {w w' : World} {R nb nl np nt : Nat} {al a1 a2 : Option Addr} {cl c1 c2 bm cm bw : Nat} {u : St} {N : Nt} (h : Cx w R nb nl np nt al a1 a2 cl c1 c2 bm cm bw u N) (hb : Below w.heap.size w w') : Cx w' R nb nl np nt al a1 a2 cl c1 c2 bm cm bw u N :=
  ⟨(below_cells hb R 0 h.rl).trans h.d0, (below_cells hb R 1 h.rl).trans h.d1, (below_cells hb R 2 h.rl).trans h.d2, (below_cells hb nb 0 h.bl).trans h.n0, (below_cells hb nb 1 h.bl).trans h.n1, Nat.lt_of_lt_of_le h.rl hb.size, Nat.lt_of_lt_of_le h.bl hb.size, h.log.below hb, h.mks.below hb, h.wy.below hb, h.net.below hb⟩

theorem arcAt_take {l : List (Int × Int)} {j : Nat} {a : Int × Int} (h : l[j]? = some a) (p : Nat) : arcAt (l.take (j + 1)) p = arcAt (l.take j) p + (if a.1 = (p : Int) then a.2 else 0) := by
  rw [take_at h, arcAt_append]; simp [arcAt]
theorem arcAt_bd (p : Nat) : ∀ (l : List (Int × Int)), (∀ a ∈ l, 1 ≤ a.2 ∧ a.2 ≤ 1000000) → 0 ≤ arcAt l p ∧ arcAt l p ≤ 1000000 * (l.length : Int)
  | [], _ => by simp [arcAt]
  | a :: l, h => by
    have h1 := h a (by simp)
    have h2 := arcAt_bd p l (fun b hb => h b (by simp [hb]))
    rw [arcAt, List.length_cons]
    split <;> omega

set_option maxRecDepth 100000 in
set_option maxHeartbeats 4000000 in
theorem counts9_big {w : World} {aT aA : Option Addr} {cTok cA nT nA : Nat} {hz : Nat} (h : 60 < nT ∨ 12 < nA) :
    Calls Try.prog 8 #[.agg #[.slice aT nT cTok, .slice aA nA cA], .int .u8 hz] w fun e w' => e = .returned (.bool true) ∧ Below w.heap.size w w' := by
  have Hfew : Hid (false = (decide (nT ≤ 60) && decide (nA ≤ 12))) := Lib.hid (by rcases h with h | h <;> simp <;> omega)
  clear h
  go_enter Try.func8, Try.ntmps8
  go_wp2_with fail
  refine (awake9 _).mono ?_
  rintro e w1 ⟨rfl, hb⟩
  have hi := (InBx.start 25 w (.slice aT nT cTok) (.slice aA nA cA)).go hb
  have b0 := hi.c0
  have b1 := hi.c1
  have Hi := Lib.hid hi
  clear hb hi
  go_wp2_with fail
  refine (few_any false Hfew.out).mono ?_
  rintro e w2 ⟨rfl, hb2⟩
  have Hi2 := Lib.hid (Hi.out.go hb2)
  clear b0 b1 hb2
  go_wp2_with fail
  refine (awake9 _).mono ?_
  rintro e w3 ⟨rfl, hb3⟩
  have Hi3 := Lib.hid (Hi2.out.go hb3)
  clear hb3
  go_wp2
  go_ret
  exact ⟨rfl, Hi3.out.old⟩

set_option maxRecDepth 100000 in
set_option maxHeartbeats 4000000 in
theorem counts9_small {w : World} {aT aA : Option Addr} {cTok cA : Nat} {hz : Nat} {ts : List Nat} {acs : List Ac} (h : DraftAt w (.slice aT ts.length cTok) (.slice aA acs.length cA) ts acs) (h60 : ts.length ≤ 60) (h12 : acs.length ≤ 12) :
    Calls Try.prog 8 #[.agg #[.slice aT ts.length cTok, .slice aA acs.length cA], .int .u8 hz] w fun e w' => e = .returned (.bool true) ∧ Below w.heap.size w w' := by
  have Hmake : Hid (∀ W : World, Below w.heap.size w W → Calls Try.prog 13 #[.agg #[.slice aT ts.length cTok, .slice aA acs.length cA]] W fun e w' => ∃ vp vt, e = .returned (.agg #[vp, vt]) ∧ NetOwn W.heap.size w' vp vt (makeN ts acs) ∧ Below W.heap.size W w') := Lib.hid (fun W hW => make_any (h.below hW))
  have Hchk := Lib.hid (makeN_check (ts := ts) h.ok)
  have Hnm := Lib.hid (makeN_names9 ts acs)
  have Hpos : Hid (1 ≤ (makeN ts acs).places.length) := Lib.hid (by have := cntP_bd ts; rw [show (makeN ts acs).places.length = cntP ts from plsOf_len _ _]; omega)
  obtain ⟨N, hN⟩ : ∃ N, N = makeN ts acs := ⟨_, rfl⟩
  rw [← hN] at Hmake Hchk Hnm Hpos
  obtain ⟨nT, hnT⟩ : ∃ k, k = ts.length := ⟨_, rfl⟩
  obtain ⟨nA, hnA⟩ : ∃ k, k = acs.length := ⟨_, rfl⟩
  rw [← hnT, ← hnA] at Hmake ⊢
  have Hfew : Hid (true = (decide (nT ≤ 60) && decide (nA ≤ 12))) := Lib.hid (by simp; omega)
  clear h hnT hnA h60 h12 hN
  go_enter Try.func8, Try.ntmps8
  go_wp2_with fail
  refine (awake9 _).mono ?_
  rintro e w1 ⟨rfl, hb⟩
  have hi := (InBx.start 25 w (.slice aT nT cTok) (.slice aA nA cA)).go hb
  have b0 := hi.c0
  have b1 := hi.c1
  have Hi := Lib.hid hi
  clear hb hi
  go_wp2_with fail
  refine (few_any true Hfew.out).mono ?_
  rintro e w2 ⟨rfl, hb2⟩
  clear b0 b1
  have hi := Hi.out.go hb2
  have b0 := hi.c0
  have b1 := hi.c1
  have Hi2 := Lib.hid hi
  clear hb2 hi
  go_wp2_with fail
  refine (Hmake.out _ Hi2.out.old).mono ?_
  rintro e w3 ⟨vp, vt, rfl, hno, hb3⟩
  have hna := hno.at_
  obtain ⟨a1, np, c1, a2, nt, c2, rfl, rfl, hnp, hnt⟩ := hna.form2
  have Hi3 := Lib.hid (Hi2.out.go hb3)
  have hnew : Below w3.heap.size w3 (w3.alloc (.cells #[.slice a1 np c1, .slice a2 nt c2] 31)) := (Below.refl _ _).alloc (Nat.le_refl _) _
  have Hrun := Lib.hid (fun hh W (hW : Below w3.heap.size w3 W) => run_any (w := W) (h := hh) hnp hnt (hna.below hW) Hnm.out Hchk.out)
  have Hnew := Lib.hid hnew
  have HB3 := Lib.hid Hi3.out.old
  have Hna3 := Lib.hid hna
  have Hnt := Lib.hid hnt
  have Hnp := Lib.hid hnp
  clear hno hb3 b0 b1 hna hnew hnt hnp
  go_wp2_with fail
  refine (Hrun.out _ _ Hnew.out).mono ?_
  rintro e w5 ⟨al, nl, cl, bm, cm, bw, nw, rfl, hnl, hnw, ⟨r1, r2, r3⟩, hb5⟩
  subst hnw
  have hsum := runN_sums (checkN_nok Hchk.out) ((hz : Int) % 40)
  have hlog0 := runN_inv (checkN_nok Hchk.out) ((hz : Int) % 40)
  have hlok := runN_log (checkN_nok Hchk.out) (h := (hz : Int) % 40)
  generalize runN N ((hz : Int) % 40) = A at hlok r1 r2 r3 hnl hsum hlog0 ⊢
  obtain ⟨u, tt, er⟩ := A
  simp only at r1 r2 r3 hsum hlog0 hnl
  simp only [resV]
  have Hnl := Lib.hid hnl
  clear hnl
  have Hlok := Lib.hid hlok
  clear hlok
  go_upto_region 5 with (fail)
  have hb35 : Below w3.heap.size w3 w5 := Hnew.out.trans (hb5.mono Hnew.out.size)
  have hb6 : Below w5.heap.size w5 (w5.alloc (.cells #[.slice al nl cl, .slice (some ⟨bm, 0, none⟩) nw cm, .slice (some ⟨bw, 0, none⟩) nw nw, .int .i64 tt] 36)) := (Below.refl _ _).alloc (Nat.le_refl _) _
  have hn0 : (w3.alloc (.cells #[.slice a1 nw c1, .slice a2 nt c2] 31)).cell? ⟨w3.heap.size, 0, none⟩ = some (.slice a1 nw c1) := by go_simp
  have hn1 : (w3.alloc (.cells #[.slice a1 nw c1, .slice a2 nt c2] 31)).cell? ⟨w3.heap.size, 1, none⟩ = some (.slice a2 nt c2) := by go_simp
  have m0 := (below_cells hb5 w3.heap.size 0 (by simp)).trans hn0
  have m1 := (below_cells hb5 w3.heap.size 1 (by simp)).trans hn1
  have m2 : w3.heap.size < w5.heap.size := by have := hb5.size; simp at this; omega
  have hcx : Cx (w5.alloc (.cells #[.slice al nl cl, .slice (some ⟨bm, 0, none⟩) nw cm, .slice (some ⟨bw, 0, none⟩) nw nw, .int .i64 tt] 36)) w5.heap.size w3.heap.size nl nw nt al a1 a2 cl c1 c2 bm cm bw u N :=
    ⟨by go_simp, by go_simp, by go_simp, by go_simp, by go_simp, by simp, by simp; omega, r1.below hb6, r2.below hb6, r3.below hb6, (Hna3.out.below hb35).below hb6⟩
  have hW := HB3.out.trans ((hb35.trans (hb6.mono hb35.size)).mono HB3.out.size)
  obtain ⟨R, hR⟩ : ∃ q, q = w5.heap.size := ⟨_, rfl⟩
  obtain ⟨nb, hnb⟩ : ∃ q, q = w3.heap.size := ⟨_, rfl⟩
  rw [← hR, ← hnb] at hcx ⊢
  have HH := And.intro hcx hW
  have Hsum := Lib.hid hsum
  have Hinv := Lib.hid hlog0
  have Hnp0 := Lib.hid Hnp.out
  clear hcx hW hsum hlog0 hR hnb m0 m1 m2 hn0 hn1 hb35 hb6 r1 r2 r3 hb5
  revert HH
  generalize (w5.alloc (.cells #[.slice al nl cl, .slice (some ⟨bm, 0, none⟩) nw cm, .slice (some ⟨bw, 0, none⟩) nw nw, .int .i64 tt] 36)) = W6
  rintro ⟨hcx, hW⟩
  have HCx := Lib.hid hcx
  have HW := Lib.hid hW
  have hnw32 : nw ≤ 32 := by rw [Hnp0.out]; exact (checkN_nok Hchk.out).pl
  have hnl2000 : nl ≤ 2000 := by rw [Hnl.out]; exact Hinv.out.ll
  have hnw1 : 1 ≤ nw := by rw [Hnp0.out]; exact Hpos.out
  clear hcx hW
  go_wp2
  go_loopw [8, 9] (fun s8 s9 wr => ∃ (k : Nat) (a : Option Addr) (c : Nat), k ≤ nw ∧ s9 = .int .i64 k ∧ s8 = .slice a k c ∧ OwnI W6.heap.size wr (.slice a k c) ((N.places.map (·.tok)).take k) ∧ Below W6.heap.size W6 wr) (fun _ i _ => nw - (intOf i).toNat)
  case atStart => exact ⟨0, none, 0, by omega, rfl, rfl, ownNil _ _ _ _, Below.refl _ _⟩
  case round =>
    rename World => v1
    obtain ⟨k, a, c, hk, rfl, rfl, ho, hbl⟩ := hrel
    have hx1 := HCx.out.below hbl
    have n0 := hx1.n0
    have bl := hx1.bl
    by_cases hlt : k < nw
    · have hlti : (k : Int) < (nw : Int) := by omega
      obtain ⟨pl, hpl⟩ := at_lt (l := N.places) (k := k) (by rw [← Hnp0.out]; exact hlt)
      obtain ⟨g, off, rfl, hg, z0, z1⟩ := PlsAt.at_ hx1.net.1 hpl
      obtain ⟨tk, htk⟩ : ∃ q, q = pl.tok := ⟨_, rfl⟩
      rw [← htk] at z1
      obtain ⟨v', w', hr, ho2, hk2, hv2⟩ := run_push_i 34 tk ho (by simp; omega) hbl.size
      have hmap : (N.places.map (·.tok))[k]? = some tk := by rw [List.getElem?_map, hpl, htk]; rfl
      rw [← take_at hmap] at ho2
      have hlen : ((N.places.map (·.tok)).take (k + 1)).length = k + 1 := by rw [List.length_take, List.length_map, ← Hnp0.out]; omega
      obtain ⟨a', c', ev⟩ := own_form ho2
      rw [hlen] at ev
      subst ev
      have hlo : ∀ q, (Value.slice a k c).ownBlock = some q → W6.heap.size ≤ q := fun q e => (World.ownsRow.lt ho q e).1
      have Hbl2 := Lib.hid (hbl.trans (hk2.below hlo hbl.size))
      have Ho2 := Lib.hid ho2
      clear hx1 ho hbl ho2 hk2 hv2 hlo hpl hmap hlen htk z0 hg
      go_wp2_with (at_builtin; refine wpList_append_eq rfl (.tmp 40) (.tmp 47) 34 rfl rfl rfl hr ?_)
      go_roundw
      case rel => exact ⟨k + 1, a', c', by omega, by go_num, rfl, Ho2.out, Hbl2.out⟩
      case measure => simp [intOf]; omega
    · have hge : ¬ (k : Int) < (nw : Int) := by omega
      have hkn : k = nw := by omega
      rw [List.take_of_length_le (by rw [List.length_map, ← Hnp0.out]; omega)] at ho
      obtain ⟨gb, gc, ef⟩ := ho.form (by rw [List.length_map, ← Hnp0.out]; omega)
      have ef2 : Value.slice a k c = .slice (some ⟨gb, 0, none⟩) nw gc := by rw [ef, List.length_map, ← Hnp0.out]
      injection ef2 with e1 e2 e3
      subst e1
      subst e3
      have Ho := Lib.hid (show OwnI W6.heap.size v1 (.slice (some ⟨gb, 0, none⟩) nw c) (N.places.map (·.tok)) from by rw [← e2]; exact ho)
      have Hbl := Lib.hid hbl
      have e2' := e2.symm
      subst e2'
      clear ho hx1 hbl ef hkn e2
      go_wp2
      clear n0 bl
      go_loopw [10] (fun s wr => ∃ (k : Nat) (cs : List Int), k ≤ nl ∧ s = .int .i64 k ∧ OwnI W6.heap.size wr (.slice (some ⟨gb, 0, none⟩) nw c) (cs) ∧ cs.length = nw ∧ Hid (∀ p, p < nw → getI cs p = wantAt N (u.log.take k) p) ∧ Below W6.heap.size W6 wr) (fun i _ => nl - (intOf i).toNat)
      case atStart => exact ⟨0, _, by omega, rfl, Ho.out, by rw [List.length_map, ← Hnp0.out], Lib.hid (fun p hp => rfl), Hbl.out⟩
      case round =>
        rename World => v2
        obtain ⟨k, cs, hk, rfl, hoc, hlc, Hec, hbl⟩ := hrel
        have hx2 := HCx.out.below hbl
        have d0 := hx2.d0
        have n1 := hx2.n1
        have rl := hx2.rl
        have bl := hx2.bl
        have Hoc := Lib.hid hoc
        have Hlc := Lib.hid hlc
        have Hb2 := Lib.hid hbl
        by_cases hlt : k < nl
        · have hlti : (k : Int) < (nl : Int) := by omega
          obtain ⟨⟨xt, xi⟩, hxx⟩ := at_lt (l := u.log) (k := k) (by rw [← Hnl.out]; exact hlt)
          obtain ⟨_, _, _, q4, q5, _⟩ := Hlok.out k _ hxx
          simp only at q4 q5
          obtain ⟨ti, rfl⟩ : ∃ q : Nat, xi = q := ⟨xi.toNat, by omega⟩
          have htn : ti < nt := by rw [Hnt.out]; omega
          have hti : (ti : Int) < (nt : Int) := by omega
          obtain ⟨tr, htr⟩ := at_lt (l := N.trans) (k := ti) (by rw [← Hnt.out]; exact htn)
          obtain ⟨_, l0, hl0, ht0⟩ := HCx.out.net
          obtain ⟨b, off, ai, ci, aj, cj, ao, co, ea2, hb6, e0, e1, e2, e3, e4, e5, hI, hN, hO⟩ := ht0.at_ (i := ti) (t := tr) (by rw [hl0]; exact htr)
          subst ea2
          have e0 := (below_cells hbl b _ hb6).trans e0
          have e1 := (below_cells hbl b _ hb6).trans e1
          have e2 := (below_cells hbl b _ hb6).trans e2
          have e3 := (below_cells hbl b _ hb6).trans e3
          have e4 := (below_cells hbl b _ hb6).trans e4
          have e5 := (below_cells hbl b _ hb6).trans e5
          have hbw2 : b < v2.heap.size := Nat.lt_of_lt_of_le hb6 hbl.size
          obtain ⟨g, og, eal, hg, z0, z1⟩ := FisAt.at_ hx2.log hxx
          subst eal
          simp only at z1
          have hok := checkN_nok Hchk.out
          have hmem := hok.at_ htr
          obtain ⟨n1', hn1⟩ : ∃ q, q = tr.inn.length := ⟨_, rfl⟩
          obtain ⟨n2', hn2⟩ : ∃ q, q = tr.nt.length := ⟨_, rfl⟩
          obtain ⟨n3', hn3⟩ : ∃ q, q = tr.out.length := ⟨_, rfl⟩
          rw [← hn1] at e3 hI
          rw [← hn2] at e4
          rw [← hn3] at e5 hO
          obtain ⟨nm, hnm⟩ : ∃ q, q = tr.name := ⟨_, rfl⟩
          obtain ⟨dl, hdl⟩ : ∃ q, q = tr.delay := ⟨_, rfl⟩
          obtain ⟨pr, hpr⟩ : ∃ q, q = tr.prio := ⟨_, rfl⟩
          rw [← hnm] at e0
          rw [← hdl] at e1
          rw [← hpr] at e2
          have HA_in := Lib.hid hI
          have HA_out := Lib.hid hO
          have Hn_in := Lib.hid hn1
          have Hn_out := Lib.hid hn3
          have HR_in : Hid (∀ a ∈ tr.inn, (0 ≤ a.1 ∧ a.1 < (nw : Int)) ∧ 1 ≤ a.2 ∧ a.2 ≤ 1000000) := Lib.hid (fun a ha => by have := hok.inn tr hmem a ha; rw [← Hnp0.out] at this; exact this)
          have HR_out : Hid (∀ a ∈ tr.out, (0 ≤ a.1 ∧ a.1 < (nw : Int)) ∧ 1 ≤ a.2 ∧ a.2 ≤ 1000000) := Lib.hid (fun a ha => by have := hok.out tr hmem a ha; rw [← Hnp0.out] at this; exact this)
          have H8_in := Lib.hid (hok.len tr hmem).1
          have H8_out := Lib.hid (hok.len tr hmem).2.2
          have Hwt : Hid (∀ p, p < nw → 0 ≤ wantAt N (u.log.take k) p ∧ wantAt N (u.log.take k) p ≤ 32000000 + 8000000 * (k : Int)) := Lib.hid (fun p hp => Hsum.out.2 k (by rw [← Hnl.out]; exact hk) p (by rw [← Hnp0.out]; exact hp))
          have Hnext : Hid (∀ p, wantAt N (u.log.take (k + 1)) p = wantAt N (u.log.take k) p + (arcAt tr.out p - arcAt tr.inn p)) := Lib.hid (fun p => by rw [take_at hxx, wantAt_append]; simp [List.getD, htr])
          have H8n : n1' ≤ 8 ∧ n3' ≤ 8 := by rw [hn1, hn3]; exact ⟨H8_in.out, H8_out.out⟩
          clear hxx htr hl0 ht0 hI hN hO hok hmem hn1 hn2 hn3 hnm hdl hpr q4 q5 z0 hoc hlc hbl hx2
          go_upto_region 13 with (fail)
          have s1 : R ≤ v2.heap.size := by omega
          have s2 : nb ≤ v2.heap.size := by omega
          have s3 : g ≤ v2.heap.size := by omega
          have s4 : b ≤ v2.heap.size := by omega
          have t1 : R < v2.heap.size + 1 := by omega
          have t2 : nb < v2.heap.size + 1 := by omega
          have t3 : g < v2.heap.size + 1 := by omega
          have t4 : b < v2.heap.size + 1 := by omega
          go_region_held3 (fun w' => R < w'.heap.size ∧ nb < w'.heap.size ∧ g < w'.heap.size ∧ b < w'.heap.size ∧ w'.cell? ⟨nb, 1, none⟩ = some (.slice (some ⟨b, off, none⟩) nt c2) ∧ w'.cell? ⟨R, 0, none⟩ = some (.slice (some ⟨g, og, none⟩) nl cl) ∧ w'.cell? ⟨g, og + k * 2 + 1, none⟩ = some (.int .i64 (ti : Int)) ∧ w'.cell? ⟨b, off + ti * 6, none⟩ = some (.string nm) ∧ w'.cell? ⟨b, off + ti * 6 + 1, none⟩ = some (.int .i64 dl) ∧ w'.cell? ⟨b, off + ti * 6 + 2, none⟩ = some (.int .i64 pr) ∧ w'.cell? ⟨b, off + ti * 6 + 3, none⟩ = some (.slice ai n1' ci) ∧ w'.cell? ⟨b, off + ti * 6 + 4, none⟩ = some (.slice aj n2' cj) ∧ w'.cell? ⟨b, off + ti * 6 + 5, none⟩ = some (.slice ao n3' co)) (first | go_keep | exact ⟨rl, bl, hg, hbw2, n1, d0, z1, e0, e1, e2, e3, e4, e5⟩ | (refine ⟨by simp; omega, by simp; omega, by simp; omega, by simp; omega, ?_, ?_, ?_, ?_, ?_, ?_, ?_, ?_, ?_⟩ <;> go_keep)) (first | fail)
          obtain ⟨tb, htb⟩ : ∃ q, q = v2.heap.size := ⟨_, rfl⟩
          have hbx : Below v2.heap.size v2 (v2.alloc (.cells #[.string nm, .int .i64 dl, .int .i64 pr, .slice ai n1' ci, .slice aj n2' cj, .slice ao n3' co] 46)).drew := ((Below.refl _ _).alloc (Nat.le_refl _) _).drew
          have hx3 : (v2.alloc (.cells #[.string nm, .int .i64 dl, .int .i64 pr, .slice ai n1' ci, .slice aj n2' cj, .slice ao n3' co] 46)).drew.cell? ⟨v2.heap.size, 3, none⟩ = some (.slice ai n1' ci) := by go_simp
          have hx5 : (v2.alloc (.cells #[.string nm, .int .i64 dl, .int .i64 pr, .slice ai n1' ci, .slice aj n2' cj, .slice ao n3' co] 46)).drew.cell? ⟨v2.heap.size, 5, none⟩ = some (.slice ao n3' co) := by go_simp
          have hxl : v2.heap.size < (v2.alloc (.cells #[.string nm, .int .i64 dl, .int .i64 pr, .slice ai n1' ci, .slice aj n2' cj, .slice ao n3' co] 46)).drew.heap.size := by simp
          have hgb := Hoc.out.lt
          have HH := And.intro hx3 (And.intro hx5 (And.intro hxl (And.intro (Hb2.out.trans (hbx.mono Hb2.out.size)) (Hoc.out.below hbx))))
          clear hx3 hx5 hxl hbx d0 n1 rl bl e0 e1 e2 e3 e4 e5 z1 hg hbw2 hb6 s1 s2 s3 s4 t1 t2 t3 t4
          rw [← htb] at HH hgb ⊢
          clear htb
          revert HH
          generalize (v2.alloc (.cells #[.string nm, .int .i64 dl, .int .i64 pr, .slice ai n1' ci, .slice aj n2' cj, .slice ao n3' co] 46)).drew = W11
          rintro ⟨x3, x5, xlt, hb11, ho11⟩
          have hgb6 : W6.heap.size ≤ gb := hgb.1
          have hgt : ¬ tb = gb := by omega
          have X3 := Lib.hid x3
          have X5 := Lib.hid x5
          have Hb11 := Lib.hid hb11
          have HoS := Lib.hid ho11
          have HlS := Hlc
          have HeS := Hec
          have HkS := Lib.hid (Kept.refl (fun q => q = gb) W11)
          clear x5 hb11 ho11
          go_wp2
          clear x3
          go_loopw [12] (fun s wr => ∃ (j : Nat) (cs : List Int), j ≤ n1' ∧ s = .int .i64 j ∧ OwnI W6.heap.size wr (.slice (some ⟨gb, 0, none⟩) nw c) cs ∧ cs.length = nw ∧ Hid (∀ p, p < nw → getI cs p = wantAt N (u.log.take k) p - arcAt (tr.inn.take j) p) ∧ Kept (fun q => q = gb) W11 wr) (fun i _ => n1' - (intOf i).toNat)
          case atStart => exact ⟨0, _, by omega, rfl, HoS.out, HlS.out, Lib.hid (fun p hp => by rw [HeS.out p hp]; simp [arcAt]), HkS.out⟩
          case round =>
            rename World => v3
            obtain ⟨j, cs, hj, rfl, hoc, hlc, Hec, hkc⟩ := hrel
            have x5 := hkc.cell xlt hgt X3.out
            have hb3 := Hb11.out.trans (hkc.below (fun q e => by subst e; exact hgb6) Hb11.out.size)
            have xl3 : tb < v3.heap.size := Nat.lt_of_lt_of_le xlt hkc.size
            have Hkc := Lib.hid hkc
            have Hoc := Lib.hid hoc
            have Hlc := Lib.hid hlc
            by_cases hlt3 : j < n1'
            · have hlti3 : (j : Int) < (n1' : Int) := by omega
              obtain ⟨⟨xa, ya⟩, hxa⟩ := at_lt (l := tr.inn) (k := j) (by rw [← Hn_in.out]; exact hlt3)
              have hra := HR_in.out _ (List.mem_of_getElem? hxa)
              simp only at hra
              obtain ⟨g3, o3, ea3, hg3, y0, y1⟩ := (HA_in.out.below hb3).at_ hxa
              subst ea3
              obtain ⟨pn, rfl⟩ : ∃ q : Nat, xa = q := ⟨xa.toNat, by omega⟩
              have hpn : pn < nw := by omega
              have hpi : (pn : Int) < (nw : Int) := by omega
              obtain ⟨z, hz⟩ := at_lt (l := cs) (k := pn) (by rw [hlc]; exact hpn)
              have hgz : getI cs (pn : Int) = z := getI_at hz
              have hbd := arcAt_bd pn (tr.inn.take j) (fun a ha => (HR_in.out a (List.mem_of_mem_take ha)).2)
              have hl8 : (tr.inn.take j).length ≤ 8 := by have := List.length_take_le j tr.inn; have := H8_in.out; omega
              have hbi := arcAt_bd pn tr.inn (fun a ha => (HR_in.out a ha).2)
              have hli := H8_in.out
              have hwt := Hwt.out pn hpn
              have hze := Hec.out pn hpn
              rw [hgz] at hze
              have hwz : wrap64 (z - ya) = z - ya := IntWalk.wrap64_in _ (by omega)
              have c0 := hoc.cell hz
              have f0 := hoc.froz pn
              have fl := hoc.lt.2
              have hset := hoc.set pn (wrap64 (z - ya)) (by rw [hlc]; exact hpn)
              have hdr : Below (v3.setCell ⟨gb, pn, none⟩ (.int .i64 (wrap64 (z - ya)))).heap.size (v3.setCell ⟨gb, pn, none⟩ (.int .i64 (wrap64 (z - ya)))) (v3.setCell ⟨gb, pn, none⟩ (.int .i64 (wrap64 (z - ya)))).drew := (Below.refl _ _).drew
              have Hset := Lib.hid (And.intro (hset.1.below hdr) ((hkc.trans hset.2).drew))
              have Hnx : Hid (∀ p, p < nw → getI (cs.set pn (wrap64 (z - ya))) p = wantAt N (u.log.take k) p - arcAt (tr.inn.take (j + 1)) p) := Lib.hid (fun p hp => by
                rw [getI_set (by rw [hlc]; exact hpn), arcAt_take hxa, hwz]
                by_cases hpp : pn = p
                · subst hpp; rw [if_pos rfl, if_pos rfl, hze]; omega
                · rw [if_neg hpp, if_neg (by simp; omega), Hec.out p hp]; omega)
              have hgt3 : ¬ gb = tb := by omega
              clear hset hdr hwz hze hwt hl8 hbd hbi hli hgz hz hxa hra hoc hkc hlc hb3
              go_wp2
              go_region
              go_wp2
              go_roundw
              case rel => exact ⟨j + 1, cs.set pn (wrap64 (z - ya)), by omega, by go_num, Hset.out.1, by rw [List.length_set]; exact Hlc.out, Hnx, Hset.out.2⟩
              case measure => simp [intOf]; omega
            · have hge3 : ¬ (j : Int) < (n1' : Int) := by omega
              have HeE : Hid (∀ p, p < nw → getI cs p = wantAt N (u.log.take k) p - arcAt tr.inn p) := Lib.hid (fun p hp => by rw [Hec.out p hp, show tr.inn.take j = tr.inn from List.take_of_length_le (by rw [← Hn_in.out]; omega)])
              clear hoc hkc hlc
              clear HoS HlS HeS HkS
              have HoS := Hoc
              have HlS := Hlc
              have HeS := HeE
              have HkS := Hkc
              clear hb3
              have y5 := HkS.out.cell xlt hgt X5.out
              have yl5 : tb < v3.heap.size := Nat.lt_of_lt_of_le xlt HkS.out.size
              go_wp2
              clear y5 yl5 x5 xl3
              go_loopw [13] (fun s wr => ∃ (j : Nat) (cs : List Int), j ≤ n3' ∧ s = .int .i64 j ∧ OwnI W6.heap.size wr (.slice (some ⟨gb, 0, none⟩) nw c) cs ∧ cs.length = nw ∧ Hid (∀ p, p < nw → getI cs p = (wantAt N (u.log.take k) p - arcAt tr.inn p) + arcAt (tr.out.take j) p) ∧ Kept (fun q => q = gb) W11 wr) (fun i _ => n3' - (intOf i).toNat)
              case atStart => exact ⟨0, _, by omega, rfl, HoS.out, HlS.out, Lib.hid (fun p hp => by rw [HeS.out p hp]; simp [arcAt]), HkS.out⟩
              case round =>
                rename World => v3
                obtain ⟨j, cs, hj, rfl, hoc, hlc, Hec, hkc⟩ := hrel
                have x5 := hkc.cell xlt hgt X5.out
                have hb3 := Hb11.out.trans (hkc.below (fun q e => by subst e; exact hgb6) Hb11.out.size)
                have xl3 : tb < v3.heap.size := Nat.lt_of_lt_of_le xlt hkc.size
                have Hkc := Lib.hid hkc
                have Hoc := Lib.hid hoc
                have Hlc := Lib.hid hlc
                by_cases hlt3 : j < n3'
                · have hlti3 : (j : Int) < (n3' : Int) := by omega
                  obtain ⟨⟨xa, ya⟩, hxa⟩ := at_lt (l := tr.out) (k := j) (by rw [← Hn_out.out]; exact hlt3)
                  have hra := HR_out.out _ (List.mem_of_getElem? hxa)
                  simp only at hra
                  obtain ⟨g3, o3, ea3, hg3, y0, y1⟩ := (HA_out.out.below hb3).at_ hxa
                  subst ea3
                  obtain ⟨pn, rfl⟩ : ∃ q : Nat, xa = q := ⟨xa.toNat, by omega⟩
                  have hpn : pn < nw := by omega
                  have hpi : (pn : Int) < (nw : Int) := by omega
                  obtain ⟨z, hz⟩ := at_lt (l := cs) (k := pn) (by rw [hlc]; exact hpn)
                  have hgz : getI cs (pn : Int) = z := getI_at hz
                  have hbd := arcAt_bd pn (tr.out.take j) (fun a ha => (HR_out.out a (List.mem_of_mem_take ha)).2)
                  have hl8 : (tr.out.take j).length ≤ 8 := by have := List.length_take_le j tr.out; have := H8_out.out; omega
                  have hbi := arcAt_bd pn tr.inn (fun a ha => (HR_in.out a ha).2)
                  have hli := H8_in.out
                  have hwt := Hwt.out pn hpn
                  have hze := Hec.out pn hpn
                  rw [hgz] at hze
                  have hwz : wrap64 (z + ya) = z + ya := IntWalk.wrap64_in _ (by omega)
                  have c0 := hoc.cell hz
                  have f0 := hoc.froz pn
                  have fl := hoc.lt.2
                  have hset := hoc.set pn (wrap64 (z + ya)) (by rw [hlc]; exact hpn)
                  have hdr : Below (v3.setCell ⟨gb, pn, none⟩ (.int .i64 (wrap64 (z + ya)))).heap.size (v3.setCell ⟨gb, pn, none⟩ (.int .i64 (wrap64 (z + ya)))) (v3.setCell ⟨gb, pn, none⟩ (.int .i64 (wrap64 (z + ya)))).drew := (Below.refl _ _).drew
                  have Hset := Lib.hid (And.intro (hset.1.below hdr) ((hkc.trans hset.2).drew))
                  have Hnx : Hid (∀ p, p < nw → getI (cs.set pn (wrap64 (z + ya))) p = (wantAt N (u.log.take k) p - arcAt tr.inn p) + arcAt (tr.out.take (j + 1)) p) := Lib.hid (fun p hp => by
                    rw [getI_set (by rw [hlc]; exact hpn), arcAt_take hxa, hwz]
                    by_cases hpp : pn = p
                    · subst hpp; rw [if_pos rfl, if_pos rfl, hze]; omega
                    · rw [if_neg hpp, if_neg (by simp; omega), Hec.out p hp]; omega)
                  have hgt3 : ¬ gb = tb := by omega
                  clear hset hdr hwz hze hwt hl8 hbd hbi hli hgz hz hxa hra hoc hkc hlc hb3
                  go_wp2
                  go_region
                  go_wp2
                  go_roundw
                  case rel => exact ⟨j + 1, cs.set pn (wrap64 (z + ya)), by omega, by go_num, Hset.out.1, by rw [List.length_set]; exact Hlc.out, Hnx, Hset.out.2⟩
                  case measure => simp [intOf]; omega
                · have hge3 : ¬ (j : Int) < (n3' : Int) := by omega
                  have HeE : Hid (∀ p, p < nw → getI cs p = (wantAt N (u.log.take k) p - arcAt tr.inn p) + arcAt tr.out p) := Lib.hid (fun p hp => by rw [Hec.out p hp, show tr.out.take j = tr.out from List.take_of_length_le (by rw [← Hn_out.out]; omega)])
                  clear hoc hkc hlc
                  have Hb3 := Lib.hid hb3
                  have HF : Hid (∀ p, p < nw → getI cs p = wantAt N (u.log.take (k + 1)) p) := Lib.hid (fun p hp => by rw [HeE.out p hp, Hnext.out p]; omega)
                  clear hb3
                  go_wp2
                  go_roundw
                  case rel => exact ⟨k + 1, cs, by omega, by go_num, Hoc.out, Hlc.out, HF, Hb3.out⟩
                  case measure => simp [intOf]; omega
        · have hge : ¬ (k : Int) < (nl : Int) := by omega
          have HeF : Hid (∀ p, p < nw → getI cs p = wantAt N u.log p) := Lib.hid (fun p hp => by rw [Hec.out p hp, List.take_of_length_le (by rw [← Hnl.out]; omega)])
          clear hoc hlc hbl n1 bl hx2
          go_wp2
          clear d0 rl
          go_loopw [14] (fun s wr => ∃ i : Nat, i ≤ nw ∧ s = .int .i64 i ∧ Below v2.heap.size v2 wr) (fun i _ => nw - (intOf i).toNat)
          case atStart => exact ⟨0, by omega, rfl, Below.refl _ _⟩
          case round =>
            rename World => v4
            obtain ⟨i, hi, rfl, hb4⟩ := hrel
            have hb64 := Hb2.out.trans (hb4.mono Hb2.out.size)
            have hx4 := HCx.out.below hb64
            have d1 := hx4.d1
            have d2 := hx4.d2
            have rl := hx4.rl
            by_cases hlt4 : i < nw
            · have hlti4 : (i : Int) < (nw : Int) := by omega
              have hin : i < N.places.length := by rw [← Hnp0.out]; exact hlt4
              have hml := Hinv.out.len
              obtain ⟨zm, hzm⟩ := at_lt (l := u.m) (k := i) (by rw [hml]; exact hin)
              obtain ⟨zw, hzw⟩ := at_lt (l := wayL u.m.length u.q) (k := i) (by rw [wayL_len, hml]; exact hin)
              obtain ⟨zc, hzc⟩ := at_lt (l := cs) (k := i) (by rw [Hlc.out]; exact hlt4)
              obtain ⟨gm, om, em, hgm, y0⟩ := IntsAt.at_ hx4.mks hzm
              injection em with em
              injection em with em1 em2 _
              subst em1
              subst em2
              obtain ⟨gw, ow, ew, hgw, y1⟩ := IntsAt.at_ hx4.wy hzw
              injection ew with ew
              injection ew with ew1 ew2 _
              subst ew1
              subst ew2
              have hoc4 := Hoc.out.below hb4
              have y2 := hoc4.cell hzc
              have y2l := hoc4.lt.2
              have h1 := Hsum.out.1 i hin
              have h2 : getI u.m (i : Int) = zm := getI_at hzm
              have h3 : getI (wayL u.m.length u.q) (i : Int) = zw := getI_at hzw
              have h4 : getI cs (i : Int) = zc := getI_at hzc
              have h5 := wayL_at u.m.length u.q (fun e he => by rw [hml]; exact Hinv.out.evs e he) i (by rw [hml]; exact hin)
              have h6 := HeF.out i hlt4
              have hm0 : 0 ≤ zm := Hinv.out.pos.at_ hzm
              have hw0 : 0 ≤ zw := by rw [← h3, h5]; exact wayAt_pos i u.q Hinv.out.evs
              have heq : zm + zw = zc := by rw [← h2, ← h3, ← h4, h5, h6]; exact h1
              have hub : zc ≤ 9223372036854775807 := by
                have := (Hsum.out.2 u.log.length (Nat.le_refl _) i hin).2
                rw [List.take_length] at this
                have := Hinv.out.ll
                omega
              have hww : wrap64 (zm + zw) = zc := by rw [IntWalk.wrap64_in _ (by omega)]; exact heq
              have g1 : (zm + zw != zc) = false := by simp [heq]
              have g1b : (zm + zw == zc) = true := by simp [heq]
              have g2 : decide (zm < 0) = false := decide_eq_false (by omega)
              have g3 : decide (zw < 0) = false := decide_eq_false (by omega)
              have Hb4 := Lib.hid hb4
              simp only [Nat.zero_add] at y0 y1
              have hl1 : -9223372036854775808 ≤ zm + zw := by omega
              have hl2 : zm + zw ≤ 9223372036854775807 := by omega
              clear hb4 hb64 hx4 hml hzm hzw hzc hoc4 h1 h2 h3 h4 h5 h6 hm0 hw0 hub hin heq
              go_wp2
              go_quiet (fail)
              go_wp2
              go_roundw
              case rel => exact ⟨i + 1, by omega, by go_num, Hb4.out.trans ((drewNb _ _).mono Hb4.out.size)⟩
              case measure => simp [intOf]; omega
            · have hge4 : ¬ (i : Int) < (nw : Int) := by omega
              have HE := Lib.hid (HW.out.trans (hb64.mono HW.out.size))
              clear hb4 hb64 hx4 d1 d2 rl
              go_wp2
              go_ret
              exact ⟨rfl, HE.out⟩

theorem counts9_law {w : World} {aT aA : Option Addr} {cTok cA : Nat} {hz : Int} (uz : (Lit.int .u8 hz).wf = true) {ts : List Nat} {acs : List Ac} (h : DraftAt w (.slice aT ts.length cTok) (.slice aA acs.length cA) ts acs) :
    Calls Try.prog 8 #[.agg #[.slice aT ts.length cTok, .slice aA acs.length cA], .int .u8 hz] w fun e w' => e = .returned (.bool true) ∧ Below w.heap.size w w' := by
  obtain ⟨hz, rfl, _⟩ := u8_nat uz
  by_cases h60 : ts.length ≤ 60
  · by_cases h12 : acs.length ≤ 12
    · exact counts9_small h h60 h12
    · exact counts9_big (.inr (by omega))
  · exact counts9_big (.inl (by omega))
end Go.Proofs.Ytfekgcfojhbngaa
