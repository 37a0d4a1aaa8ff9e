/-
  The walk of the law PlainRaw: for every net and horizon: why it may not be, or its run.
  Conditions: names of up to 2000000 bytes.
-/
import Derived.Test.YtpfdmmidomofdaaRunJ
import Derived.Test.YtpfdmmidomofdaaR9R
import Derived.Test.YtpfdmmidomofdaaR9S
import Derived.Test.YtpfdmmidomofdaaRefCheck
import Derived.Test.YtpfdmmidomofdaaNearIn
namespace Go.Proofs.Ytpfdmmidomofdaa
open Go.RowKit
set_option linter.unusedVariables false

def longR (t : Tr) : Bool := decide (10 < t.inn.length) || (decide (10 < t.nt.length) || decide (10 < t.out.length))

set_option maxRecDepth 100000 in
set_option maxHeartbeats 4000000 in
theorem praw_big {w : World} {ap at_ : Option Addr} {cp ct np nt hz : Nat} (h : 35 < np ∨ 8 < nt) :
    Calls Try.prog 4 #[.agg #[.slice ap np cp, .slice at_ nt ct], .int .u8 hz] w fun e w' => e = .returned (.bool true) ∧ Below w.heap.size w w' := by
  go_enter Try.func4, Try.ntmps4
  go_wp2_with fail
  refine (awake9 _).mono ?_
  rintro e w1 ⟨rfl, hb⟩
  have hi : InBox w w1 (.slice ap np cp) (.slice at_ nt ct) := (InBox.start _ _ _).go hb
  have b0 := hi.c0
  have b1 := hi.c1
  have hs := hi.size
  have Hi := Lib.hid hi
  clear hb hi
  by_cases h1 : 35 < np
  · have h1i : (35 : Int) < (np : Int) := by omega
    clear h
    go_wp2_with fail
    refine (awake9 _).mono ?_
    rintro e w2 ⟨rfl, hb⟩
    have Hi2 := Lib.hid (Hi.out.go hb)
    clear hb
    go_wp2
    go_ret
    exact ⟨rfl, Hi2.out.old⟩
  · have h1i : ¬ (35 : Int) < (np : Int) := by omega
    have h1b : decide ((35 : Int) < (np : Int)) = false := decide_eq_false h1i
    have h2i : (8 : Int) < (nt : Int) := by omega
    clear h
    go_wp2_with fail
    refine (awake9 _).mono ?_
    rintro e w2 ⟨rfl, hb⟩
    have Hi2 := Lib.hid (Hi.out.go hb)
    clear hb
    go_wp2
    go_ret
    exact ⟨rfl, Hi2.out.old⟩

set_option maxRecDepth 100000 in
set_option maxHeartbeats 4000000 in
theorem praw_small {w : World} {n : Nt} {ap at_ : Option Addr} {cp ct hz : Nat} (h : NetAt w (.slice ap n.places.length cp) (.slice at_ n.trans.length ct) n) (hs : ∀ s ∈ n.names, s.size ≤ 2000000) (h35 : n.places.length ≤ 35) (h8 : n.trans.length ≤ 8) :
    Calls Try.prog 4 #[.agg #[.slice ap n.places.length cp, .slice at_ n.trans.length ct], .int .u8 hz] w fun e w' => e = .returned (.bool true) ∧ Below w.heap.size w w' := by
  have Hck : Hid (∀ W : World, Below w.heap.size w W → Calls Try.prog 18 #[.agg #[.slice ap n.places.length cp, .slice at_ n.trans.length ct]] W fun e w' => e = .returned (.int .i64 (checkN n)) ∧ Below W.heap.size W w') := Lib.hid (fun W hW => rcheck_any (h.below hW) hs)
  have Hh := Lib.hid h
  have Hs : Hid (∀ s ∈ n.names, s.size ≤ 9223372036854775807) := Lib.hid (fun s hs' => by have := hs s hs'; omega)
  obtain ⟨np, hnp⟩ : ∃ k, k = n.places.length := ⟨_, rfl⟩
  obtain ⟨nt, hnt⟩ : ∃ k, k = n.trans.length := ⟨_, rfl⟩
  rw [← hnp, ← hnt] at Hck Hh ⊢
  have Hnp := Lib.hid hnp
  have Hnt := Lib.hid hnt
  have g1 : ¬ (35 : Int) < (np : Int) := by omega
  have g1b : decide ((35 : Int) < (np : Int)) = false := decide_eq_false g1
  have g2 : ¬ (8 : Int) < (nt : Int) := by omega
  have g2b : decide ((8 : Int) < (nt : Int)) = false := decide_eq_false g2
  have hnt8 : nt ≤ 8 := by omega
  clear h hs hnp hnt h35 h8
  go_enter Try.func4, Try.ntmps4
  go_wp2_with fail
  refine (awake9 _).mono ?_
  rintro e w1 ⟨rfl, hb⟩
  have hi : InBox w w1 (.slice ap np cp) (.slice at_ nt ct) := (InBox.start _ _ _).go hb
  have b0 := hi.c0
  have b1 := hi.c1
  have hs := hi.size
  have Hi := Lib.hid hi
  clear hb hi
  go_wp2
  clear b0 b1 hs g1 g1b g2 g2b
  go_loopw [5] (fun i wr => ∃ k : Nat, k ≤ nt ∧ i = .int .i64 k ∧ InBox w wr (.slice ap np cp) (.slice at_ nt ct)) (fun i _ => nt - (intOf i).toNat)
  case atStart => exact ⟨0, by omega, rfl, Hi.out⟩
  case round =>
    rename World => v1
    obtain ⟨k, hk, rfl, hi⟩ := hrel
    have b0 := hi.c0
    have b1 := hi.c1
    have hsz := hi.size
    have Hi2 := Lib.hid hi
    by_cases hlt : k < nt
    · have hlti : (k : Int) < (nt : Int) := by omega
      obtain ⟨_, l, hl, htr⟩ := Hh.out.below hi.old
      obtain ⟨x, hx⟩ := at_lt (l := n.trans) (k := k) (by rw [← Hnt.out]; exact hlt)
      obtain ⟨g, off, a1, c1, a2, c2, a3, c3, rfl, hgw, e0, e1, e2, e3, e4, e5, _, _, _⟩ := htr.at_ (i := k) (t := x) (by rw [hl]; exact hx)
      obtain ⟨n1, hn1⟩ : ∃ k, k = x.inn.length := ⟨_, rfl⟩
      obtain ⟨n2, hn2⟩ : ∃ k, k = x.nt.length := ⟨_, rfl⟩
      obtain ⟨n3, hn3⟩ : ∃ k, k = x.out.length := ⟨_, rfl⟩
      rw [← hn1] at e3
      rw [← hn2] at e4
      rw [← hn3] at e5
      clear hl htr hx e0 e1 e2 hi hn1 hn2 hn3
      by_cases q1 : 10 < n1
      · have q1i : (10 : Int) < (n1 : Int) := by omega
        have q1b : decide ((10 : Int) < (n1 : Int)) = true := decide_eq_true q1i
        go_wp2
        go_ret
        exact ⟨rfl, Hi2.out.old⟩
      · have q1b : decide ((10 : Int) < (n1 : Int)) = false := decide_eq_false (by omega)
        by_cases q2 : 10 < n2
        · have q2b : decide ((10 : Int) < (n2 : Int)) = true := decide_eq_true (by omega)
          go_wp2
          go_ret
          exact ⟨rfl, Hi2.out.old⟩
        · have q2b : decide ((10 : Int) < (n2 : Int)) = false := decide_eq_false (by omega)
          by_cases q3 : 10 < n3
          · have q3b : decide ((10 : Int) < (n3 : Int)) = true := decide_eq_true (by omega)
            go_wp2
            go_ret
            exact ⟨rfl, Hi2.out.old⟩
          · have q3b : decide ((10 : Int) < (n3 : Int)) = false := decide_eq_false (by omega)
            go_wp2
            go_roundw
            case rel => exact ⟨k + 1, by omega, by go_num, Hi2.out⟩
            case measure => simp [intOf]; omega
    · have hge : ¬ (k : Int) < (nt : Int) := by omega
      clear hi
      by_cases hq : checkN n = 0
      · have Hrun := Lib.hid (fun W (hW : Below w.heap.size w W) => run_any (w := W) (h := (hz : Int) % 20) Hnp.out Hnt.out (Hh.out.below hW) Hs.out hq)
        have hN := checkN_nok hq
        have Hr9 := Lib.hid (fun W (hW : Below w.heap.size w W) => rrun_any (w := W) (h := (hz : Int) % 20) Hnp.out Hnt.out (Hh.out.below hW) hN)
        have HI := Lib.hid (runN_inv hN ((hz : Int) % 20))
        obtain ⟨A, hA⟩ : ∃ A, A = runN n ((hz : Int) % 20) := ⟨_, rfl⟩
        rw [← hA] at Hrun Hr9 HI
        obtain ⟨u, tp, ep⟩ := A
        simp only at Hrun Hr9 HI
        have hnm : np = u.m.length := by rw [HI.out.len, Hnp.out]
        have Hnm := Lib.hid hnm
        rw [hq] at Hck
        clear hnm hA hN hq
        go_wp2_with fail
        refine (Hrun.out _ Hi2.out.old).mono ?_
        rintro e w5 ⟨al, nl, cl, bm, cm, bw, nw, rfl, hnl, hnw, hres, hb5⟩
        have hnw2 := hnw.symm
        clear hnw
        subst hnw2
        simp only [resV]
        have hi5 := Hi2.out.go hb5
        have hb6 : Below w5.heap.size w5 (w5.alloc (.cells #[.slice al nl cl, .slice (some ⟨bm, 0, none⟩) np cm, .slice (some ⟨bw, 0, none⟩) np np, .int .i64 tp] 36)) := (Below.refl _ _).alloc (Nat.le_refl _) _
        have hi6 := hi5.go hb6
        have Hf6 := Lib.hid (And.intro (FisAt.below hres.1 hb6) (And.intro (IntsAt.below hres.2.1 hb6) (IntsAt.below hres.2.2 hb6)))
        have Hnl := Lib.hid hnl
        have hp0 : ∀ j v, [Value.slice al nl cl, .slice (some ⟨bm, 0, none⟩) np cm, .slice (some ⟨bw, 0, none⟩) np np, .int .i64 tp][j]? = some v → (w5.alloc (.cells #[.slice al nl cl, .slice (some ⟨bm, 0, none⟩) np cm, .slice (some ⟨bw, 0, none⟩) np np, .int .i64 tp] 36)).cell? ⟨w5.heap.size, j, none⟩ = some v := fun j v hj => by
          rw [cell_of_row _ _ j _ _ (0, 0) (heap_alloc_new w5 (.cells #[.slice al nl cl, .slice (some ⟨bm, 0, none⟩) np cm, .slice (some ⟨bw, 0, none⟩) np np, .int .i64 tp] 36))]; rw [← hj]; simp
        have Hp0 := Lib.hid hp0
        have Hi6 := Lib.hid hi6
        have hw5 := hi5.size
        have i0 := hi5.c0
        have i1 := hi5.c1
        have hs6 : w5.heap.size < (w5.alloc (.cells #[.slice al nl cl, .slice (some ⟨bm, 0, none⟩) np cm, .slice (some ⟨bw, 0, none⟩) np np, .int .i64 tp] 36)).heap.size := by simp
        have Hs6 := Lib.hid hs6
        clear hnl hres hb5 hb6 hp0 hi5 hi6 hs6 Hrun b0 b1 hsz
        go_wp2_with fail
        refine (Hck.out _ Hi6.out.old).mono ?_
        rintro e w6 ⟨rfl, hb7⟩
        have hi7 := Hi6.out.go hb7
        have Hi7 := Lib.hid hi7
        have H56 := Lib.hid hb7
        clear i0 i1 hw5
        have i0 := hi7.c0
        have i1 := hi7.c1
        have hw5 := hi7.size
        have hs56 : w5.heap.size < w6.heap.size := Nat.lt_of_lt_of_le Hs6.out hb7.size
        clear hi7 hb7
        go_wp2_with fail
        refine (Hr9.out _ Hi7.out.old).mono ?_
        rintro e w7 ⟨aq, lq, cq, am2, cm2, aw2, cw2, rfl, hlq, hres2, hb7⟩
        obtain rfl : lq = nl := by rw [hlq, Hnl.out]
        simp only [resV]
        have hb8 : Below w7.heap.size w7 (w7.alloc (.cells #[.slice aq lq cq, .slice am2 np cm2, .slice aw2 np cw2, .int .i64 tp] 36)) := (Below.refl _ _).alloc (Nat.le_refl _) _
        have h57 : w5.heap.size < w7.heap.size := Nat.lt_of_lt_of_le hs56 hb7.size
        have hb68 := H56.out.trans ((hb7.trans (hb8.mono hb7.size)).mono H56.out.size)
        have g0 := (below_cells hb68 w5.heap.size 0 (by simp)).trans (Hp0.out 0 _ rfl)
        have g1 := (below_cells hb68 w5.heap.size 1 (by simp)).trans (Hp0.out 1 _ rfl)
        have g2 := (below_cells hb68 w5.heap.size 2 (by simp)).trans (Hp0.out 2 _ rfl)
        have g3 := (below_cells hb68 w5.heap.size 3 (by simp)).trans (Hp0.out 3 _ rfl)
        have hr1 : ResAt (w7.alloc (.cells #[.slice aq lq cq, .slice am2 np cm2, .slice aw2 np cw2, .int .i64 tp] 36)) (.slice al lq cl) (.slice (some ⟨bm, 0, none⟩) np cm) (.slice (some ⟨bw, 0, none⟩) np np) u := ⟨FisAt.below Hf6.out.1 hb68, IntsAt.below Hf6.out.2.1 hb68, IntsAt.below Hf6.out.2.2 hb68⟩
        have hr2 : ResAt (w7.alloc (.cells #[.slice aq lq cq, .slice am2 np cm2, .slice aw2 np cw2, .int .i64 tp] 36)) (.slice aq lq cq) (.slice am2 np cm2) (.slice aw2 np cw2) u := ⟨FisAt.below hres2.1 hb8, IntsAt.below hres2.2.1 hb8, IntsAt.below hres2.2.2 hb8⟩
        have HS := Lib.hid (rsame_same (t := tp) hlq Hnm.out rfl hr1 hr2)
        have HW := Lib.hid ((Hi7.out.go (hb7.trans (hb8.mono hb7.size))).old)
        have gs : w5.heap.size < (w7.alloc (.cells #[.slice aq lq cq, .slice am2 np cm2, .slice aw2 np cw2, .int .i64 tp] 36)).heap.size := by simp; omega
        clear hb7 hb8 hb68 hr1 hr2 hres2 hlq i0 i1 hw5 hs56 Hr9 h57
        have hee : (ep == ep) = true := by simp
        unfold resV at HS
        go_wp2_with fail
        refine HS.out.mono ?_
        rintro e w9 ⟨rfl, hb9⟩
        have HF := Lib.hid (HW.out.trans (hb9.mono HW.out.size))
        clear hb9 g0 g1 g2 g3 gs
        go_wp2
        go_ret
        exact ⟨rfl, HF.out⟩
      · obtain ⟨q, hqe⟩ : ∃ q, q = checkN n := ⟨_, rfl⟩
        have Hrun := Lib.hid (fun W (hW : Below w.heap.size w W) => run_bad (w := W) (h := (hz : Int) % 20) Hnp.out Hnt.out (Hh.out.below hW) Hs.out hqe.symm (by rw [hqe]; exact hq))
        have hq0 : (q == 0) = false := by rw [hqe]; simpa using hq
        have hqn : (q != 0) = true := by rw [hqe]; simpa using hq
        have hqq : (q == q) = true := by simp
        rw [← hqe] at Hck
        clear hq hqe
        go_wp2_with fail
        refine (Hrun.out _ Hi2.out.old).mono ?_
        rintro e w5 ⟨rfl, hb5⟩
        simp only [resV, nilS]
        have hi5 := Hi2.out.go hb5
        have hb6 : Below w5.heap.size w5 (w5.alloc (.cells #[.slice none 0 0, .slice none 0 0, .slice none 0 0, .int .i64 0] 36)) := (Below.refl _ _).alloc (Nat.le_refl _) _
        have hi6 := hi5.go hb6
        have p0 : (w5.alloc (.cells #[.slice none 0 0, .slice none 0 0, .slice none 0 0, .int .i64 0] 36)).cell? ⟨w5.heap.size, 0, none⟩ = some (.slice none 0 0) := by go_simp
        have p1 : (w5.alloc (.cells #[.slice none 0 0, .slice none 0 0, .slice none 0 0, .int .i64 0] 36)).cell? ⟨w5.heap.size, 1, none⟩ = some (.slice none 0 0) := by go_simp
        have Hp := Lib.hid (And.intro p0 p1)
        have Hi6 := Lib.hid hi6
        have hw5 := hi5.size
        have i0 := hi5.c0
        have i1 := hi5.c1
        clear hb5 hb6 hi5 hi6 Hrun b0 b1 hsz p0 p1
        go_wp2_with fail
        refine (Hck.out _ Hi6.out.old).mono ?_
        rintro e w6 ⟨rfl, hb7⟩
        have k0 := (below_cells hb7 w5.heap.size 0 (by simp)).trans Hp.out.1
        have k1 := (below_cells hb7 w5.heap.size 1 (by simp)).trans Hp.out.2
        have hs56 : w5.heap.size < w6.heap.size := by have := hb7.size; simp at this; omega
        have HF := Lib.hid ((Hi6.out.go hb7).old)
        clear hb7 i0 i1 hw5
        go_wp2
        go_ret
        exact ⟨rfl, HF.out⟩

theorem praw_law {w : World} {n : Nt} {ap at_ : Option Addr} {cp ct : Nat} {hz : Int} (uz : (Lit.int .u8 hz).wf = true) (hs : ∀ s ∈ n.names, s.size ≤ 2000000) (h : NetAt w (.slice ap n.places.length cp) (.slice at_ n.trans.length ct) n) :
    Calls Try.prog 4 #[.agg #[.slice ap n.places.length cp, .slice at_ n.trans.length ct], .int .u8 hz] w fun e w' => e = .returned (.bool true) ∧ Below w.heap.size w w' := by
  obtain ⟨hz, rfl, _⟩ := u8_nat uz
  by_cases h35 : n.places.length ≤ 35
  · by_cases h8 : n.trans.length ≤ 8
    · exact praw_small h hs h35 h8
    · exact praw_big (.inr (by omega))
  · exact praw_big (.inl (by omega))
end Go.Proofs.Ytpfdmmidomofdaa
