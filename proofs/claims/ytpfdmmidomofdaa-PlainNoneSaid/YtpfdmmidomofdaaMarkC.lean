/-
  What mark's Best comes to, and the document's own.
  Conditions: none beyond each theorem's own.
-/
import Derived.Test.YtpfdmmidomofdaaMarkB
namespace Go.Proofs.Ytpfdmmidomofdaa
open Go.RowKit
set_option linter.unusedVariables false

/-- one transition looked at -/
def stepB (m : List Int) (ts : List Tr) (z : Int) (k : Nat) : Int :=
  match ts[k]? with
  | none => z
  | some t => if mayB m t.inn t.nt = true then (if z < 0 then (k : Int) else if t.prio < (ts.getD z.toNat t).prio then (k : Int) else z) else z
/-- which fires, of the first k -/
def bestTo (m : List Int) (ts : List Tr) : Nat → Int
  | 0 => -1
  | k + 1 => stepB m ts (bestTo m ts k) k

theorem bestTo_bd (m : List Int) (ts : List Tr) : ∀ k, -1 ≤ bestTo m ts k ∧ bestTo m ts k < k := by
  intro k
  induction k with
  | zero => simp [bestTo]
  | succ k ih =>
    unfold bestTo stepB
    split
    · omega
    · split
      · split
        · omega
        · split <;> omega
      · omega

theorem stepB_no {m : List Int} {ts : List Tr} {z : Int} {k : Nat} {t : Tr} (h : ts[k]? = some t) (hm : mayB m t.inn t.nt = false) : stepB m ts z k = z := by
  unfold stepB; rw [h]; simp [hm]
theorem stepB_first {m : List Int} {ts : List Tr} {z : Int} {k : Nat} {t : Tr} (h : ts[k]? = some t) (hm : mayB m t.inn t.nt = true) (hz : z < 0) : stepB m ts z k = k := by
  unfold stepB; rw [h]; simp [hm, hz]
theorem stepB_more {m : List Int} {ts : List Tr} {b : Nat} {k : Nat} {t u : Tr} (h : ts[k]? = some t) (hm : mayB m t.inn t.nt = true) (hb : ts[b]? = some u) : stepB m ts (b : Int) k = if t.prio < u.prio then (k : Int) else (b : Int) := by
  unfold stepB; rw [h]; simp [hm, hb, List.getD, show ¬ (b : Int) < 0 by omega]

/-- all lists of a net go to places that are marked -/
def FitsN (m : List Int) (n : Nt) : Prop := ∀ t ∈ n.trans, Fits m.length t.inn ∧ Fits m.length t.nt

set_option maxRecDepth 100000 in
set_option maxHeartbeats 4000000 in
theorem best_any {w : World} {n : Nt} {ap at_ am : Option Addr} {cp ct np nt nm cm : Nat} {m : List Int} (hnt : nt = n.trans.length) (hnm : nm = m.length) (h : NetAt w (.slice ap np cp) (.slice at_ nt ct) n) (hM : IntsAt w (.slice am nm cm) m) (hF : FitsN m n) (q : Int) (hq : q = bestTo m n.trans nt) :
    Calls Try.prog 84 #[.agg #[.slice ap np cp, .slice at_ nt ct], .slice am nm cm] w fun e w' => e = .returned (.int .i64 q) ∧ Below w.heap.size w w' := by
  have hah := fun (W : World) (hW : Below w.heap.size w W) (a b : Nat) (ta tb : Tr) (ha : n.trans[a]? = some ta) (hb : n.trans[b]? = some tb) (q : Bool) (hq : q = aheadB ta.prio tb.prio a b) => ahead_any hnt (h.below hW) ha hb q hq
  have Hah := Lib.hid hah
  obtain ⟨_, l, hl, ht⟩ := h
  have hmax : nt ≤ 9223372036854775807 := by have := RowAt.max ht.1; rw [hnt, ← hl, List.length_map]; exact this
  have Hnt := Lib.hid hnt
  have Hnm := Lib.hid hnm
  have Hl := Lib.hid hl
  have Ht := Lib.hid ht
  have HM := Lib.hid hM
  have HF := Lib.hid hF
  have HQ := Lib.hid hq
  clear hnt hnm hl ht hM hF hq hah
  go_enter Try.func84, Try.ntmps84
  go_wp2
  go_loopw [5, 11] (fun z i wr => ∃ (k : Nat) (y : Int), k ≤ nt ∧ i = .int .i64 k ∧ z = .int .i64 y ∧ InBox w wr (.slice ap np cp) (.slice at_ nt ct) ∧ Hid (y = bestTo m n.trans k)) (fun _ i _ => nt - (intOf i).toNat)
  case atStart => exact ⟨0, -1, by omega, rfl, rfl, InBox.start _ _ _, Lib.hid rfl⟩
  case round =>
    rename World => v1
    obtain ⟨k, y, hk, rfl, rfl, hin, Hy⟩ := hrel
    by_cases hlt : k < nt
    · obtain ⟨t, htr⟩ := at_lt (l := n.trans) (k := k) (by rw [← Hnt.out]; exact hlt)
      have hlti : (k : Int) < (nt : Int) := by omega
      obtain ⟨b, off, a1, c1, a2, c2, a3, c3, rfl, hbw, e0, e1, e2, e3, e4, e5, hI, hN, _⟩ := (Ht.out.below hin.old).at_ (i := k) (t := t) (by rw [Hl.out]; exact htr)
      have Htr := Lib.hid htr
      have Hnext : Hid (bestTo m n.trans (k + 1) = stepB m n.trans y k) := Lib.hid (by rw [Hy.out]; rfl)
      have hbd := bestTo_bd m n.trans k
      rw [← Hy.out] at hbd
      obtain ⟨o, ho⟩ : ∃ o, o = Obj.cells #[.string t.name, .int .i64 t.delay, .int .i64 t.prio, .slice a1 t.inn.length c1, .slice a2 t.nt.length c2, .slice a3 t.out.length c3] 46 := ⟨_, rfl⟩
      have hb1 : Below v1.heap.size v1 (v1.alloc o) := (Below.refl _ _).alloc (Nat.le_refl _) o
      have Hin := Lib.hid (hin.go hb1)
      have Hm1 : Hid (∀ q, q = mayB m t.inn t.nt → Calls Try.prog 69 #[trV t.name t.delay t.prio a1 t.inn.length c1 a2 t.nt.length c2 a3 t.out.length c3, .slice am nm cm] (v1.alloc o) fun e w' => e = .returned (.bool q) ∧ Below (v1.alloc o).heap.size (v1.alloc o) w') :=
        Lib.hid (fun q hq => may_any rfl rfl Hnm.out (hI.below hb1) (hN.below hb1) (HM.out.below (hin.go hb1).old) (HF.out t (List.mem_of_getElem? htr)).1 (HF.out t (List.mem_of_getElem? htr)).2 q hq)
      subst ho
      obtain ⟨n1, hn1⟩ : ∃ n, n = t.inn.length := ⟨_, rfl⟩
      obtain ⟨n2, hn2⟩ : ∃ n, n = t.nt.length := ⟨_, rfl⟩
      obtain ⟨n3, hn3⟩ : ∃ n, n = t.out.length := ⟨_, rfl⟩
      rw [← hn1] at e3 Hm1 Hin
      rw [← hn2] at e4 Hm1 Hin
      rw [← hn3] at e5 Hm1 Hin
      clear hb1 hI hN htr hin hn1 hn2 hn3
      cases hmay : mayB m t.inn t.nt with
      | false =>
        have Hr : Hid (y = bestTo m n.trans (k + 1)) := Lib.hid (by rw [Hnext.out, stepB_no Htr.out hmay])
        have Hmay := Lib.hid hmay
        clear hmay hbd
        go_wp2_with (go_at_call 69; refine (Hm1.out false Hmay.out.symm).mono ?_; rintro e w2 ⟨rfl, hb2⟩; have Hb2 := Lib.hid hb2; clear hb2)
        go_roundw
        case rel => exact ⟨k + 1, y, by omega, by go_num, rfl, Hin.out.go Hb2.out, Hr⟩
        case measure => simp [intOf]; omega
      | true =>
        by_cases hneg : y < 0
        · have Hr : Hid ((k : Int) = bestTo m n.trans (k + 1)) := Lib.hid (by rw [Hnext.out, stepB_first Htr.out hmay hneg])
          have Hmay := Lib.hid hmay
          clear hmay hbd
          go_wp2_with (go_at_call 69; refine (Hm1.out true Hmay.out.symm).mono ?_; rintro e w2 ⟨rfl, hb2⟩; have Hb2 := Lib.hid hb2; clear hb2)
          go_roundw
          case rel => exact ⟨k + 1, k, by omega, by go_num, rfl, Hin.out.go Hb2.out, Hr⟩
          case measure => simp [intOf]; omega
        · have hnegb : decide (y < 0) = false := decide_eq_false hneg
          obtain ⟨c, rfl⟩ : ∃ c : Nat, y = c := ⟨y.toNat, by omega⟩
          obtain ⟨u, hu⟩ := at_lt (l := n.trans) (k := c) (by rw [← Hnt.out]; omega)
          have Hu := Lib.hid hu
          have hst := stepB_more (m := m) Htr.out hmay hu
          have hck : ¬ k < c := by omega
          have Hmay := Lib.hid hmay
          by_cases hp : t.prio < u.prio
          · have Hr : Hid ((k : Int) = bestTo m n.trans (k + 1)) := Lib.hid (by rw [Hnext.out, hst, if_pos hp])
            have Hq : Hid (true = aheadB t.prio u.prio k c) := Lib.hid (by simp [aheadB, hp])
            clear hmay hbd hst hu hck hp
            go_wp2_with (first | (go_at_call 69; refine (Hm1.out true Hmay.out.symm).mono ?_; rintro e w2 ⟨rfl, hb2⟩; have Hb2 := Lib.hid hb2; clear hb2; have d0 := (Hin.out.go Hb2.out).c0; have d1 := (Hin.out.go Hb2.out).c1) | (go_at_call 101; refine (Hah.out _ (Hin.out.go Hb2.out).old _ _ _ _ Htr.out Hu.out true Hq.out).mono ?_; rintro e w3 ⟨rfl, hb3⟩; have Hb3 := Lib.hid hb3; clear hb3))
            go_roundw
            case rel => exact ⟨k + 1, k, by omega, by go_num, rfl, (Hin.out.go Hb2.out).go Hb3.out, Hr⟩
            case measure => simp [intOf]; omega
          · have Hr : Hid ((c : Int) = bestTo m n.trans (k + 1)) := Lib.hid (by rw [Hnext.out, hst, if_neg hp])
            have Hq : Hid (false = aheadB t.prio u.prio k c) := Lib.hid (by simp [aheadB]; constructor <;> omega)
            clear hmay hbd hst hu hck hp
            go_wp2_with (first | (go_at_call 69; refine (Hm1.out true Hmay.out.symm).mono ?_; rintro e w2 ⟨rfl, hb2⟩; have Hb2 := Lib.hid hb2; clear hb2; have d0 := (Hin.out.go Hb2.out).c0; have d1 := (Hin.out.go Hb2.out).c1) | (go_at_call 101; refine (Hah.out _ (Hin.out.go Hb2.out).old _ _ _ _ Htr.out Hu.out false Hq.out).mono ?_; rintro e w3 ⟨rfl, hb3⟩; have Hb3 := Lib.hid hb3; clear hb3))
            go_roundw
            case rel => exact ⟨k + 1, c, by omega, by go_num, rfl, (Hin.out.go Hb2.out).go Hb3.out, Hr⟩
            case measure => simp [intOf]; omega
    · have hge : ¬ (k : Int) < (nt : Int) := by omega
      obtain rfl : q = y := by rw [HQ.out, Hy.out, show k = nt by omega]
      have Hi := Lib.hid hin
      clear hin
      go_wp2
      go_ret
      exact ⟨rfl, Hi.out.old⟩
end Go.Proofs.Ytpfdmmidomofdaa
