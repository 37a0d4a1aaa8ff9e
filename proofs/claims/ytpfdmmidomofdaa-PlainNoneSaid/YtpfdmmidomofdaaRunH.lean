/-
  What upTo comes to: from time to time, up to the horizon.
  Conditions: none beyond each theorem's own.
-/
import Derived.Test.YtpfdmmidomofdaaRunG
namespace Go.Proofs.Ytpfdmmidomofdaa
open Go.RowKit
set_option linter.unusedVariables false

theorem times_err {ts : List Tr} {h t : Int} {k : Nat} {s : St} (he : (instAll ts t s).2 ≠ 0) : times ts h (k + 1) t s = ((instAll ts t s).1, t, (instAll ts t s).2) := by rw [times, if_pos he]
theorem times_go {ts : List Tr} {h t : Int} {k : Nat} {s : St} (he : (instAll ts t s).2 = 0) : times ts h (k + 1) t s = if 0 ≤ nextT (instAll ts t s).1.q ∧ nextT (instAll ts t s).1.q ≤ h then times ts h k (nextT (instAll ts t s).1.q) (instAll ts t s).1 else ((instAll ts t s).1, t, 0) := by rw [times, if_neg (by rw [he]; simp)]

set_option maxRecDepth 100000 in
set_option maxHeartbeats 4000000 in
theorem upTo_any {n : Nt} {w0 w : World} {b bm nm cm np nt cp ct : Nat} {ap at_ : Option Addr} {h : Int} {more : List Row} (hn : NOk n) (hnm : nm = n.places.length) (hnp : np = n.places.length) (hnt : nt = n.trans.length) (hnet : NetAt w0 (.slice ap np cp) (.slice at_ nt ct) n) (hR : RunAt w0 w b (.slice ap np cp) (.slice at_ nt ct) bm nm cm 0 (start n) more) :
    Calls Try.prog 35 #[.pointer (some ⟨b, 0, none⟩), .int .i64 h] w fun e w' => e = .returned (.int .i64 (runN n h).2.2) ∧ RunAt w0 w' b (.slice ap np cp) (.slice at_ nt ct) bm nm cm (runN n h).2.1 (runN n h).1 more := by
  obtain ⟨A, hA⟩ : ∃ A, A = runN n h := ⟨_, rfl⟩
  rw [← hA]
  have HA : Hid (A = if 0 ≤ (0 : Int) ∧ 0 ≤ h then times n.trans h (h.toNat + 1) 0 (start n) else (start n, 0, 0)) := Lib.hid (by rw [hA, runN]; simp)
  have HN := Lib.hid hn
  have Hnet := Lib.hid hnet
  have Hnt := Lib.hid hnt
  have Hnp := Lib.hid hnp
  have Hnm := Lib.hid hnm
  have HR := Lib.hid hR
  have HI := Lib.hid (start_inv hn)
  clear hA hn hnet hnt hnp hnm hR
  go_enter Try.func35, Try.ntmps35
  go_wp2
  go_loopg [5, 6] (h.toNat + 1) (fun k s5 s6 wr => ∃ (tt tc : Int) (u : St), s5 = .int .i64 tt ∧ RunAt w0 wr b (.slice ap np cp) (.slice at_ nt ct) bm nm cm tc u more ∧ (0 ≤ tt → Inv n tt u) ∧ (0 ≤ tt → tt ≤ h → (h - tt).toNat + 1 ≤ k) ∧ Hid (A = if 0 ≤ tt ∧ tt ≤ h then times n.trans h k tt u else (u, tc, 0)))
  case atStart => exact ⟨0, 0, start n, rfl, HR.out, fun _ => HI.out, fun _ _ => by omega, HA⟩
  case round =>
    obtain ⟨tt, tc, u, rfl, h1, hI, hk, HK⟩ := hrel
    rename World => v1
    by_cases g1 : 0 ≤ tt
    · by_cases g2 : tt ≤ h
      · obtain ⟨k, rfl⟩ : ∃ k, gk = k + 1 := ⟨gk - 1, by have := hk g1 g2; omega⟩
        have hi := hI g1
        obtain ⟨h2, f5⟩ := h1.time tt
        obtain ⟨_, _, _, k5, kb, _⟩ := h1.cells
        have hin := instant_any HN.out hi (Hnm.out.trans hi.len.symm) Hnp.out Hnt.out Hnet.out h2
        obtain ⟨i1, i2, i3⟩ := instAll_inv HN.out hi
        have HIn := Lib.hid hin
        have Hi1 := Lib.hid i1
        have Hi2 := Lib.hid i2
        have HK2 : Hid (A = times n.trans h (k + 1) tt u) := Lib.hid (by rw [HK.out, if_pos ⟨g1, g2⟩])
        have Hk := Lib.hid (hk g1 g2)
        have Herr := Lib.hid (fun he => times_err (ts := n.trans) (h := h) (t := tt) (k := k) (s := u) he)
        have Hgo := Lib.hid (fun he => times_go (ts := n.trans) (h := h) (t := tt) (k := k) (s := u) he)
        clear hi h1 h2 hin i1 i2 i3 hI hk
        generalize instAll n.trans tt u = X at HIn Hi1 Hi2 Herr Hgo
        obtain ⟨u2, er⟩ := X
        simp only at HIn Hi1 Hi2 Herr Hgo
        by_cases he : er = 0
        · subst he
          go_wp2_with (go_at_call 60; refine HIn.out.mono ?_; rintro e w6 ⟨rfl, h6⟩; have H6 := Lib.hid h6; clear h6)
          obtain ⟨aq, cq, k4, hE⟩ := H6.out.way
          have kb6 := H6.out.cells.2.2.2.2.1
          refine (next_any rfl kb6 k4 (RowAt.of_own hE) _ rfl).mono ?_
          rintro e w7 ⟨rfl, hb7⟩
          have H7 := Lib.hid (H6.out.go hb7)
          have HK3 := Lib.hid (HK2.out.trans (Hgo.out trivial))
          have Hnx := Lib.hid (fun h0 => next_inv Hi1.out Hi2.out h0)
          obtain ⟨z, hz⟩ : ∃ z, z = nextT u2.q := ⟨_, rfl⟩
          rw [← hz] at HK3 Hnx ⊢
          clear hz hb7 k4 hE kb6
          go_wp2
          go_roundg k
          case rel =>
            refine ⟨z, tt, u2, rfl, H7.out, fun h0 => (Hnx.out h0).2.1, fun h0 h1 => ?_, HK3⟩
            have := (Hnx.out h0).1
            have := Hk.out
            omega
          case measure => omega
        · have hne : (er == 0) = false := by simpa using he
          have HE : Hid (A = (u2, tt, er)) := Lib.hid (by rw [HK2.out, Herr.out he])
          clear he
          go_wp2_with (go_at_call 60; refine HIn.out.mono ?_; rintro e w6 ⟨rfl, h6⟩; have H6 := Lib.hid h6; clear h6)
          go_ret
          rw [HE.out]
          exact ⟨rfl, H6.out⟩
      · have g2b : decide (tt ≤ h) = false := decide_eq_false g2
        have HE : Hid (A = (u, tc, 0)) := Lib.hid (by rw [HK.out, if_neg (by omega)])
        have H1 := Lib.hid h1
        clear h1 hI hk
        go_wp2
        go_ret
        rw [HE.out]
        exact ⟨rfl, H1.out⟩
    · have g1b : decide (0 ≤ tt) = false := decide_eq_false g1
      have HE : Hid (A = (u, tc, 0)) := Lib.hid (by rw [HK.out, if_neg (by omega)])
      have H1 := Lib.hid h1
      clear h1 hI hk
      go_wp2
      go_ret
      rw [HE.out]
      exact ⟨rfl, H1.out⟩
end Go.Proofs.Ytpfdmmidomofdaa
