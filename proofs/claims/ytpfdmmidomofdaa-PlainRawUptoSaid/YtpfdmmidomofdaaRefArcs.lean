/-
  What the document's own check of a list of arcs comes to.
  Conditions: none beyond each theorem's own.
-/
import Derived.Test.YtpfdmmidomofdaaNetE
import Derived.Deep.QuietTactic
import Derived.BigQuiet
namespace Go.Proofs.Ytpfdmmidomofdaa
open Go.RowKit
set_option linter.unusedVariables false

theorem below_drewN' {B : Nat} {a w : World} (h : Below B a w) (n : Nat) : Below B a (w.drewN n) := ⟨h.os, h.tape, h.output, h.size, h.block⟩

set_option maxRecDepth 100000 in
set_option maxHeartbeats 4000000 in
theorem rarcs_any {w : World} {l : List (Int × Int)} {a : Option Addr} {n cap : Nat} {P : Int} (hn : n = l.length) (h : ArcsAt w (.slice a n cap) l) :
    Calls Try.prog 40 #[.slice a n cap, .int .i64 P] w fun e w' => e = .returned (.int .i64 (arcsErr P [] l)) ∧ Below w.heap.size w w' := by
  have hmax : n ≤ 9223372036854775807 := by have := RowAt.max h; omega
  have H := Lib.hid h
  have Hn := Lib.hid hn
  obtain ⟨q, hq⟩ : ∃ q, q = arcsErr P [] l := ⟨_, rfl⟩
  rw [← hq]
  have Hq : Hid (q = arcsFrom P l 0) := Lib.hid (by rw [arcsFrom_zero]; exact hq)
  clear h hn hq
  go_enter Try.func40, Try.ntmps40
  go_wp2
  go_loopw [5] (fun i wr => ∃ j : Nat, j ≤ n ∧ i = .int .i64 j ∧ Below w.heap.size w wr ∧ Hid (q = arcsFrom P l j)) (fun i _ => n - (intOf i).toNat)
  case atStart => exact ⟨0, by omega, rfl, Below.refl _ _, Hq⟩
  case round =>
    rename World => v1
    obtain ⟨j, hj, rfl, hb, Hj⟩ := hrel
    by_cases hlt : j < n
    · obtain ⟨⟨x, y⟩, hx⟩ := at_lt (l := l) (k := j) (by rw [← Hn.out]; exact hlt)
      have hlti : (j : Int) < (n : Int) := by omega
      have HA := Lib.hid (ArcsAt.below H.out hb)
      obtain ⟨b, off, rfl, hbw, f0, f1⟩ := ArcsAt.at_ HA.out hx
      have Hs := Lib.hid (arcsFrom_step (P := P) hx)
      have Hb := Lib.hid hb
      clear hx hb
      by_cases hy1 : y < 1
      · have hy1b : decide (y < 1) = true := decide_eq_true hy1
        have Hr : Hid (q = 3) := Lib.hid (by rw [Hj.out, Hs.out, if_pos (by simp [numB]; omega)])
        go_wp2
        go_ret
        exact ⟨by rw [Hr.out]; rfl, Hb.out⟩
      · have hy1b : decide (y < 1) = false := decide_eq_false hy1
        by_cases hy2 : 1000000 < y
        · have hy2b : decide (1000000 < y) = true := decide_eq_true hy2
          have Hr : Hid (q = 3) := Lib.hid (by rw [Hj.out, Hs.out, if_pos (by simp [numB]; omega)])
          go_wp2
          go_ret
          exact ⟨by rw [Hr.out]; rfl, Hb.out⟩
        · have hy2b : decide (1000000 < y) = false := decide_eq_false hy2
          have Hs2 : Hid (arcsFrom P l j = if inP P x = false then 2 else if hasP (l.take j) x = true then 1 else arcsFrom P l (j + 1)) := Lib.hid (by rw [Hs.out, if_neg (by simp [numB]; omega)])
          by_cases hx1 : x < 0
          · have hx1b : decide (x < 0) = true := decide_eq_true hx1
            have Hr : Hid (q = 2) := Lib.hid (by rw [Hj.out, Hs2.out, if_pos (by simp [inP]; omega)])
            go_wp2
            go_ret
            exact ⟨by rw [Hr.out]; rfl, Hb.out⟩
          · have hx1b : decide (x < 0) = false := decide_eq_false hx1
            by_cases hx2 : P ≤ x
            · have hx2b : decide (P ≤ x) = true := decide_eq_true hx2
              have Hr : Hid (q = 2) := Lib.hid (by rw [Hj.out, Hs2.out, if_pos (by simp [inP]; omega)])
              go_wp2
              go_ret
              exact ⟨by rw [Hr.out]; rfl, Hb.out⟩
            · have hx2b : decide (P ≤ x) = false := decide_eq_false hx2
              have Hs3 : Hid (arcsFrom P l j = if hasP (l.take j) x = true then 1 else arcsFrom P l (j + 1)) := Lib.hid (by rw [Hs2.out, if_neg (by simp [inP]; omega)])
              go_wp2
              go_loopw [6] (fun i wr => ∃ k : Nat, k ≤ j ∧ i = .int .i64 k ∧ Below v1.heap.size v1 wr ∧ Hid (hasP (l.take j) x = anyFrom (fun a => a.1 == x) (l.take j) k)) (fun i _ => j - (intOf i).toNat)
              case atStart => exact ⟨0, by omega, rfl, Below.refl _ _, Lib.hid (by rw [anyFrom_zero]; rfl)⟩
              case round =>
                obtain ⟨k, hk, rfl, hb, Hk⟩ := hrel
                have g0 : wr.cell? ⟨b, off + j * 2, none⟩ = some (.int .i64 x) := (below_cells hb _ _ hbw).trans f0
                have Hb2 := Lib.hid (Hb.out.trans (hb.mono Hb.out.size))
                by_cases hkj : k < j
                · obtain ⟨⟨x2, y2⟩, hx2⟩ := at_lt (l := l) (k := k) (by rw [← Hn.out]; omega)
                  have hkji : (k : Int) < (j : Int) := by omega
                  have hkn : (k : Int) < (n : Int) := by omega
                  obtain ⟨b', off', he, hbw', f2, f3⟩ := ArcsAt.at_ (ArcsAt.below HA.out hb) hx2
                  injection he with he
                  injection he with he1 he2 _
                  subst he1 he2
                  have Hx2 : Hid ((l.take j)[k]? = some (x2, y2)) := Lib.hid (by rw [List.getElem?_take, if_pos hkj]; exact hx2)
                  have Hbi := Lib.hid hb
                  clear hx2 hb
                  cases hf : (x2 == x) with
                  | true =>
                    have Hr : Hid (q = 1) := Lib.hid (by rw [Hj.out, Hs3.out, if_pos (by rw [Hk.out]; exact anyFrom_yes Hx2.out hf)])
                    go_wp2
                    go_quiet (fail)
                    go_wp2
                    go_ret
                    exact ⟨by rw [Hr.out]; rfl, below_drewN' Hb2.out _⟩
                  | false =>
                    have Hr : Hid (hasP (l.take j) x = anyFrom (fun a => a.1 == x) (l.take j) (k + 1)) := Lib.hid (by rw [Hk.out]; exact anyFrom_no Hx2.out hf)
                    go_wp2
                    go_quiet (fail)
                    go_wp2
                    go_roundw
                    case rel => exact ⟨k + 1, by omega, by go_num, below_drewN' Hbi.out _, Hr⟩
                    case measure => simp [intOf]; omega
                · have hge : ¬ (k : Int) < (j : Int) := by omega
                  have Hr : Hid (q = arcsFrom P l (j + 1)) := Lib.hid (by
                    have e0 : hasP (l.take j) x = false := by rw [Hk.out]; exact anyFrom_end _ _ _ (by rw [List.length_take]; omega)
                    rw [Hj.out, Hs3.out, if_neg (by rw [e0]; simp)])
                  clear hb
                  go_wp2
                  go_roundw
                  case rel => exact ⟨j + 1, by omega, by go_num, Hb2.out, Hr⟩
                  case measure => simp [intOf]; omega
    · have hge : ¬ (j : Int) < (n : Int) := by omega
      have Hr : Hid (q = 0) := Lib.hid (by rw [Hj.out]; exact arcsFrom_end _ _ (by rw [← Hn.out]; omega))
      have Hb := Lib.hid hb
      clear hb
      go_wp2
      go_ret
      exact ⟨by rw [Hr.out]; rfl, Hb.out⟩
end Go.Proofs.Ytpfdmmidomofdaa
