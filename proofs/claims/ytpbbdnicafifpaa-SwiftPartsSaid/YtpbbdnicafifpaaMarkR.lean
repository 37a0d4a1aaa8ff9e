/-
  What the document's own Best comes to.
  Conditions: none beyond each theorem's own.
-/
import Derived.Test.YtpbbdnicafifpaaMarkABC
namespace Go.Proofs.Ytpbbdnicafifpaa
open Go.RowKit
set_option linter.unusedVariables false

set_option maxRecDepth 100000 in
set_option maxHeartbeats 8000000 in
theorem rbest_any {w : World} {n : Nt} {ap at_ am : Option Addr} {cp ct np nt nm cm : Nat} {m : List Int} (hnt : nt = n.trans.length) (hnm : nm = m.length) (h : NetAt w (.slice ap np cp) (.slice at_ nt ct) n) (hM : IntsAt w (.slice am nm cm) m) (hF : FitsN m n) (q : Int) (hq : q = bestTo m n.trans nt) :
    Calls Try.prog 72 #[.agg #[.slice ap np cp, .slice at_ nt ct], .slice am nm cm] w fun e w' => e = .returned (.int .i64 q) ∧ Below w.heap.size w w' := by
  obtain ⟨_, l, hl, ht⟩ := h
  have hmax : nt ≤ 9223372036854775807 := by have := RowAt.max ht.1; rw [hnt, ← hl, List.length_map]; exact this
  have Hnt := Lib.hid hnt
  have Hnm := Lib.hid hnm
  have Hl := Lib.hid hl
  have Ht := Lib.hid ht
  have HM := Lib.hid hM
  have HF := Lib.hid hF
  have HQ := Lib.hid hq
  clear hnt hnm hl ht hM hF hq
  go_enter Try.func72, Try.ntmps72
  go_wp2
  go_loopw [5, 6] (fun z i wr => ∃ (k : Nat) (y : Int), k ≤ nt ∧ i = .int .i64 k ∧ z = .int .i64 y ∧ InBox w wr (.slice ap np cp) (.slice at_ nt ct) ∧ Hid (y = bestTo m n.trans k)) (fun _ i _ => nt - (intOf i).toNat)
  case atStart => exact ⟨0, -1, by omega, rfl, rfl, InBox.start _ _ _, Lib.hid rfl⟩
  case round =>
    rename World => v1
    obtain ⟨k, y, hk, rfl, rfl, hin, Hy⟩ := hrel
    have hc1 := hin.c1
    have hsz := hin.size
    by_cases hlt : k < nt
    · obtain ⟨t, htr⟩ := at_lt (l := n.trans) (k := k) (by rw [← Hnt.out]; exact hlt)
      have hlti : (k : Int) < (nt : Int) := by omega
      obtain ⟨b, off, a1, c1, a2, c2, a3, c3, rfl, hbw, e0, e1, e2, e3, e4, e5, hI, hN, _⟩ := (Ht.out.below hin.old).at_ (i := k) (t := t) (by rw [Hl.out]; exact htr)
      have Htr := Lib.hid htr
      have Hnext : Hid (bestTo m n.trans (k + 1) = stepB m n.trans y k) := Lib.hid (by rw [Hy.out]; rfl)
      have hbd := bestTo_bd m n.trans k
      rw [← Hy.out] at hbd
      have Hin := Lib.hid hin
      have Hm1 : Hid (∀ q, q = mayB m t.inn t.nt → ∀ p : NewBy v1, Calls Try.prog 92 #[trV t.name t.delay t.prio a1 t.inn.length c1 a2 t.nt.length c2 a3 t.out.length c3, .slice am nm cm] p.to fun e w' => e = .returned (.bool q) ∧ Below p.to.heap.size p.to w') :=
        Lib.hid (fun q hq p => rmay_any rfl rfl Hnm.out (hI.below p.below) (hN.below p.below) (HM.out.below (hin.go p.below).old) (HF.out t (List.mem_of_getElem? htr)).1 (HF.out t (List.mem_of_getElem? htr)).2 q hq)
      obtain ⟨n1, hn1⟩ : ∃ n, n = t.inn.length := ⟨_, rfl⟩
      obtain ⟨n2, hn2⟩ : ∃ n, n = t.nt.length := ⟨_, rfl⟩
      obtain ⟨n3, hn3⟩ : ∃ n, n = t.out.length := ⟨_, rfl⟩
      rw [← hn1] at e3 Hm1
      rw [← hn2] at e4 Hm1
      rw [← hn3] at e5 Hm1
      have x1 := fun p : NewBy v1 => NewBy.cell (o := 1) hsz hc1 p
      have y0 := fun p : NewBy v1 => NewBy.cell hbw e0 p
      have y1 := fun p : NewBy v1 => NewBy.cell hbw e1 p
      have y2 := fun p : NewBy v1 => NewBy.cell hbw e2 p
      have y3 := fun p : NewBy v1 => NewBy.cell hbw e3 p
      have y4 := fun p : NewBy v1 => NewBy.cell hbw e4 p
      have y5 := fun p : NewBy v1 => NewBy.cell hbw e5 p
      clear hI hN htr hin hn1 hn2 hn3
      cases hmay : mayB m t.inn t.nt with
      | false =>
        have Hr : Hid (y = bestTo m n.trans (k + 1)) := Lib.hid (by rw [Hnext.out, stepB_no Htr.out hmay])
        have Hmay := Lib.hid hmay
        clear hmay hbd
        go_wp2
        refine wp_region_new (by kernel_rfl) (by kernel_rfl) ?_
        repeat (go_big_quiet_step (first | (go_at_call 92; exact Calls.new_of (Hm1.out false Hmay.out.symm _))))
        refine wpQuiet_nil ?_
        intro wz hzz
        obtain ⟨pz, hzz⟩ := hzz
        subst hzz
        have Hz := Lib.hid (Hin.out.go pz.below)
        go_wp2
        go_roundw
        case rel => exact ⟨k + 1, y, by omega, by go_num, rfl, Hz.out, Hr⟩
        case measure => simp [intOf]; omega
      | true =>
        by_cases hneg : y < 0
        · have Hr : Hid ((k : Int) = bestTo m n.trans (k + 1)) := Lib.hid (by rw [Hnext.out, stepB_first Htr.out hmay hneg])
          have Hmay := Lib.hid hmay
          clear hmay hbd
          go_wp2
          refine wp_region_new (by kernel_rfl) (by kernel_rfl) ?_
          repeat (go_big_quiet_step (first | (go_at_call 92; exact Calls.new_of (Hm1.out true Hmay.out.symm _))))
          refine wpQuiet_nil ?_
          intro wz hzz
          obtain ⟨pz, hzz⟩ := hzz
          subst hzz
          have Hz := Lib.hid (Hin.out.go pz.below)
          go_wp2
          go_roundw
          case rel => exact ⟨k + 1, k, by omega, by go_num, rfl, Hz.out, Hr⟩
          case measure => simp [intOf]; omega
        · have hnegb : decide (y < 0) = false := decide_eq_false hneg
          obtain ⟨c, rfl⟩ : ∃ c : Nat, y = c := ⟨y.toNat, by omega⟩
          obtain ⟨u, hu⟩ := at_lt (l := n.trans) (k := c) (by rw [← Hnt.out]; omega)
          have hci : (c : Int) < (nt : Int) := by omega
          obtain ⟨b2, off2, a1', c1', a2', c2', a3', c3', eq, hbw', f0, f1, f2, f3, f4, f5, _, _, _⟩ := (Ht.out.below Hin.out.old).at_ (i := c) (t := u) (by rw [Hl.out]; exact hu)
          injection eq with eq
          injection eq with eq1 eq2 _
          subst eq1; subst eq2
          have z2 := fun p : NewBy v1 => NewBy.cell hbw f2 p
          have hst := stepB_more (m := m) Htr.out hmay hu
          have Hmay := Lib.hid hmay
          clear f0 f1 f3 f4 f5 hu
          by_cases hp : t.prio < u.prio
          · have Hr : Hid ((k : Int) = bestTo m n.trans (k + 1)) := Lib.hid (by rw [Hnext.out, hst, if_pos hp])
            clear hmay hbd hst
            go_wp2
            refine wp_region_new (by kernel_rfl) (by kernel_rfl) ?_
            repeat (go_big_quiet_step (first | (go_at_call 92; exact Calls.new_of (Hm1.out true Hmay.out.symm _))))
            refine wpQuiet_nil ?_
            intro wz hzz
            obtain ⟨pz, hzz⟩ := hzz
            subst hzz
            have Hz := Lib.hid (Hin.out.go pz.below)
            go_wp2
            go_roundw
            case rel => exact ⟨k + 1, k, by omega, by go_num, rfl, Hz.out, Hr⟩
            case measure => simp [intOf]; omega
          · have Hr : Hid ((c : Int) = bestTo m n.trans (k + 1)) := Lib.hid (by rw [Hnext.out, hst, if_neg hp])
            have hpb : decide (t.prio < u.prio) = false := decide_eq_false hp
            clear hmay hbd hst
            go_wp2
            refine wp_region_new (by kernel_rfl) (by kernel_rfl) ?_
            repeat (go_big_quiet_step (first | (go_at_call 92; exact Calls.new_of (Hm1.out true Hmay.out.symm _))))
            refine wpQuiet_nil ?_
            intro wz hzz
            obtain ⟨pz, hzz⟩ := hzz
            subst hzz
            have Hz := Lib.hid (Hin.out.go pz.below)
            go_wp2
            go_roundw
            case rel => exact ⟨k + 1, c, by omega, by go_num, rfl, Hz.out, Hr⟩
            case measure => simp [intOf]; omega
    · have hge : ¬ (k : Int) < (nt : Int) := by omega
      obtain rfl : q = y := by rw [HQ.out, Hy.out, show k = nt by omega]
      have Hi := Lib.hid hin
      clear hin
      go_wp2
      go_ret
      exact ⟨rfl, Hi.out.old⟩
end Go.Proofs.Ytpbbdnicafifpaa
