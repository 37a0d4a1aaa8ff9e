/-
  The parser's lists of arcs: what is taken, and what is asked.
  Conditions: none beyond each theorem's own.
-/
import Derived.Test.YtfiielibnnodkaaPLists
namespace Go.Proofs.Ytfiielibnnodkaa
open Go.RowKit
set_option linter.unusedVariables false

section
variable {w0 w w' : World} {R T br bq M : Nat} {vp vt v v1 v2 v3 : Value} {ts : List Tok} {ps : List Pl} {l : List (Tr × Value × Value × Value)} {more : List Row} {ns : List (List UInt8)} {nm : ByteArray} {d p : Int} {x : LS} {l1 l2 l3 : List (Int × Int)}

set_option maxRecDepth 100000 in
set_option maxHeartbeats 2000000 in
theorem look_reader (hM : SMap w0 M ns) (h : LSt w0 R M vp vt ps l more T br bq nm d p x w) :
    Calls Try.prog 99 #[.pointer (some ⟨br, 0, none⟩), .pointer (some ⟨bq, 0, none⟩)] w fun e w' => e = .returned (.int .i64 (lookG ns x).2) ∧ LSt w0 R M vp vt ps l more T br bq nm d p (lookG ns x).1 w' := by
  obtain ⟨hok, hg, v1, v2, v3, hS⟩ := h
  have hp := pass_any hS hg [126] (by simp)
  obtain ⟨cr, _, _, _, _, _, lr, _, _⟩ := hS.trC
  have Hok := Lib.hid hok
  have HM := Lib.hid hM
  unfold lookG
  by_cases hs : (hd x.ts).text = [126]
  · have hg2 := hg.tailS (by simp) hs
    rw [if_pos hs]
    rw [if_pos hs, decide_eq_true hs] at hp
    obtain ⟨A, hA⟩ : ∃ A, A = arcG ns x.nt x.ts.tail := ⟨_, rfl⟩
    have HA := Lib.hid hA
    have HAl : Hid (A.1.length ≤ 8) := Lib.hid (by rw [hA]; exact arcG_len hok.a2)
    have HAg : Hid (Good A.2.2) := Lib.hid (by rw [hA]; exact (arcG_rest hg2).1)
    have Hg2 := Lib.hid hg2
    rw [← hA]
    clear hS hA hok hg hM hg2 hs
    go_enter Try.func99, Try.ntmps99
    go_wp2_with fail
    refine hp.mono ?_
    rintro e w1 ⟨rfl, hS⟩
    have hS0 := hS.go (Below.refl _ _).drew
    have Harc := Lib.hid (arcs_2 (r2 := arcRow v2 x.nt) HM.out hS0 Hg2.out Hok.out.a2)
    rw [← HA.out] at Harc
    have hv3 := own_form3 (hS.mem (r := arcRow v2 x.nt) (by simp [trRows]))
    clear cr lr
    obtain ⟨cr, cq, _, t5, _, _, lr, lq, lt⟩ := hS0.trC
    clear hS hS0 hp
    obtain ⟨a3, n3, c3, e3⟩ := hv3
    have e3 : v2 = .slice a3 n3 c3 := e3
    subst e3
    go_wp2
    go_region_law (first | (go_simp; go_at_call 100; refine Harc.out.mono ?_; rintro e w5 ⟨a5, n5, c5, rfl, f1, f2, f3, HS6⟩))
    all_goals
      clear f1 f2 f3 cr cq t5
      go_wp2
      go_ret
      exact ⟨rfl, ⟨⟨Hok.out.a1, HAl.out, Hok.out.a3⟩, HAg.out, _, _, _, HS6.out⟩⟩
  · rw [if_neg hs]
    rw [if_neg hs, decide_eq_false hs] at hp
    obtain ⟨A, hA⟩ : ∃ A, A = arcG ns x.inn x.ts := ⟨_, rfl⟩
    have HA := Lib.hid hA
    have HAl : Hid (A.1.length ≤ 8) := Lib.hid (by rw [hA]; exact arcG_len hok.a1)
    have HAg : Hid (Good A.2.2) := Lib.hid (by rw [hA]; exact (arcG_rest hg).1)
    have Hg2 := Lib.hid hg
    rw [← hA]
    clear hS hA hok hg hM hs
    go_enter Try.func99, Try.ntmps99
    go_wp2_with fail
    refine hp.mono ?_
    rintro e w1 ⟨rfl, hS⟩
    have hS0 := hS.go (Below.refl _ _).drew
    have Harc := Lib.hid (arcs_1 (r1 := arcRow v1 x.inn) HM.out hS0 Hg2.out Hok.out.a1)
    rw [← HA.out] at Harc
    have hv3 := own_form3 (hS.mem (r := arcRow v1 x.inn) (by simp [trRows]))
    clear cr lr
    obtain ⟨cr, cq, t5, _, _, _, lr, lq, lt⟩ := hS0.trC
    clear hS hS0 hp
    obtain ⟨a3, n3, c3, e3⟩ := hv3
    have e3 : v1 = .slice a3 n3 c3 := e3
    subst e3
    go_wp2
    go_region_law (first | (go_simp; go_at_call 100; refine Harc.out.mono ?_; rintro e w5 ⟨a5, n5, c5, rfl, f1, f2, f3, HS6⟩))
    all_goals
      clear f1 f2 f3 cr cq t5
      go_wp2
      go_ret
      exact ⟨rfl, ⟨⟨HAl.out, Hok.out.a2, Hok.out.a3⟩, HAg.out, _, _, _, HS6.out⟩⟩
end
end Go.Proofs.Ytfiielibnnodkaa
