/-
  What mark's Ahead and Best come to, and the document's own May and Best: of those that may fire the one ahead of all others.
  Conditions: none beyond each theorem's own.
-/
import Derived.Test.YtpfdmmidomofdaaMarkA
namespace Go.Proofs.Ytpfdmmidomofdaa
open Go.RowKit
set_option linter.unusedVariables false

/-- a transition's box: its cells -/
theorem InTr.c3 {w wr : World} {v0 v1 v2 v3 v4 v5 : Value} (h : InTr w wr (.agg #[v0, v1, v2, v3, v4, v5])) : wr.cell? ⟨w.heap.size, 3, none⟩ = some v3 := h.cell 3 rfl
theorem InTr.c4 {w wr : World} {v0 v1 v2 v3 v4 v5 : Value} (h : InTr w wr (.agg #[v0, v1, v2, v3, v4, v5])) : wr.cell? ⟨w.heap.size, 4, none⟩ = some v4 := h.cell 4 rfl

set_option maxRecDepth 100000 in
set_option maxHeartbeats 4000000 in
theorem rmay_any {w : World} {s : ByteArray} {d p : Int} {a1 a2 a3 am : Option Addr} {n1 n2 n3 c1 c2 c3 nm cm : Nat} {m : List Int} {li ln : List (Int × Int)} (h1 : n1 = li.length) (h2 : n2 = ln.length) (hm : nm = m.length)
    (hI : ArcsAt w (.slice a1 n1 c1) li) (hN : ArcsAt w (.slice a2 n2 c2) ln) (hM : IntsAt w (.slice am nm cm) m) (fI : Fits m.length li) (fN : Fits m.length ln) (q : Bool) (hq : q = mayB m li ln) :
    Calls Try.prog 87 #[trV s d p a1 n1 c1 a2 n2 c2 a3 n3 c3, .slice am nm cm] w fun e w' => e = .returned (.bool q) ∧ Below w.heap.size w w' := by
  have hx1 : n1 ≤ 9223372036854775807 := by have := RowAt.max hI; omega
  have hx2 : n2 ≤ 9223372036854775807 := by have := RowAt.max hN; omega
  have H1 := Lib.hid h1
  have H2 := Lib.hid h2
  have Hm := Lib.hid hm
  have HI := Lib.hid hI
  have HN := Lib.hid hN
  have HM := Lib.hid hM
  have FI := Lib.hid fI
  have FN := Lib.hid fN
  have HQ := Lib.hid hq
  clear h1 h2 hm hI hN hM fI fN hq
  go_enter Try.func87, Try.ntmps87
  go_wp2
  go_loopw [5] (fun i wr => ∃ k : Nat, k ≤ n1 ∧ i = .int .i64 k ∧ InTr w wr (trV s d p a1 n1 c1 a2 n2 c2 a3 n3 c3) ∧ Hid (li.any (shortA m) = anyFrom (shortA m) li k)) (fun i _ => n1 - (intOf i).toNat)
  case atStart => exact ⟨0, by omega, rfl, InTr.start _ _, Lib.hid (by rw [anyFrom_zero])⟩
  case round =>
    rename World => v1
    obtain ⟨k, hk, rfl, hin, Hk⟩ := hrel
    have hc3 := hin.c3
    by_cases hlt : k < n1
    · obtain ⟨⟨x, y⟩, hx⟩ := at_lt (l := li) (k := k) (by rw [← H1.out]; exact hlt)
      have hlti : (k : Int) < (n1 : Int) := by omega
      obtain ⟨b, off, rfl, hbw, e0, e1⟩ := (HI.out.below hin.old).at_ hx
      obtain ⟨p, rfl, hp, z, hz, hg⟩ := FI.out.at_ hx
      obtain ⟨bm, om, rfl, hbm, em⟩ := (HM.out.below hin.old).at_ hz
      have hpn : p < nm := by rw [Hm.out]; exact hp
      have hpi : (p : Int) < (nm : Int) := by omega
      have Hin := Lib.hid hin
      have Hyes : Hid (z < y → q = false) := Lib.hid (fun e => by
        rw [HQ.out]; unfold mayB
        rw [Hk.out, anyFrom_yes hx (by unfold shortA; simp [hg, e])]; rfl)
      have Hno : Hid (¬ z < y → li.any (shortA m) = anyFrom (shortA m) li (k + 1)) := Lib.hid (fun e => by rw [Hk.out]; exact anyFrom_no hx (by unfold shortA; simp [hg]; omega))
      clear hx hz hg hin hp
      by_cases g : z < y
      · obtain rfl : q = false := Hyes.out g
        go_wp2
        go_quiet (fail)
        go_wp2
        go_ret
        exact ⟨rfl, (Hin.out.go (drewNb _ _)).old⟩
      · have gb : decide (z < y) = false := decide_eq_false g
        have Hr := Lib.hid (Hno.out g)
        go_wp2
        go_quiet (fail)
        go_wp2
        go_roundw
        case rel => exact ⟨k + 1, by omega, by go_num, Hin.out.go (drewNb _ _), Hr⟩
        case measure => simp [intOf]; omega
    · have hge : ¬ (k : Int) < (n1 : Int) := by omega
      have HQ2 : Hid (q = !(ln.any (fullA m))) := Lib.hid (by
        rw [HQ.out]; unfold mayB
        rw [Hk.out, anyFrom_end _ _ _ (by rw [← H1.out]; omega)]; rfl)
      have Hi := Lib.hid hin
      clear hin
      go_wp2
      clear hc3
      go_loopw [6] (fun i wr => ∃ k : Nat, k ≤ n2 ∧ i = .int .i64 k ∧ InTr w wr (trV s d p a1 n1 c1 a2 n2 c2 a3 n3 c3) ∧ Hid (ln.any (fullA m) = anyFrom (fullA m) ln k)) (fun i _ => n2 - (intOf i).toNat)
      case atStart => exact ⟨0, by omega, rfl, Hi.out, Lib.hid (by rw [anyFrom_zero])⟩
      case round =>
        rename World => v2
        obtain ⟨k, hk, rfl, hin, Hk⟩ := hrel
        have hc4 := hin.c4
        by_cases hlt : k < n2
        · obtain ⟨⟨x, y⟩, hx⟩ := at_lt (l := ln) (k := k) (by rw [← H2.out]; exact hlt)
          have hlti : (k : Int) < (n2 : Int) := by omega
          obtain ⟨b, off, rfl, hbw, e0, e1⟩ := (HN.out.below hin.old).at_ hx
          obtain ⟨p, rfl, hp, z, hz, hg⟩ := FN.out.at_ hx
          obtain ⟨bm, om, rfl, hbm, em⟩ := (HM.out.below hin.old).at_ hz
          have hpn : p < nm := by rw [Hm.out]; exact hp
          have hpi : (p : Int) < (nm : Int) := by omega
          have Hin := Lib.hid hin
          have Hyes : Hid (y ≤ z → q = false) := Lib.hid (fun e => by
            rw [HQ2.out, Hk.out, anyFrom_yes hx (by unfold fullA; simp [hg, e])]; rfl)
          have Hno : Hid (¬ y ≤ z → ln.any (fullA m) = anyFrom (fullA m) ln (k + 1)) := Lib.hid (fun e => by rw [Hk.out]; exact anyFrom_no hx (by unfold fullA; simp [hg]; omega))
          clear hx hz hg hin hp
          by_cases g : y ≤ z
          · obtain rfl : q = false := Hyes.out g
            go_wp2
            go_quiet (fail)
            go_wp2
            go_ret
            exact ⟨rfl, (Hin.out.go (drewNb _ _)).old⟩
          · have gb : decide (y ≤ z) = false := decide_eq_false g
            have Hr := Lib.hid (Hno.out g)
            go_wp2
            go_quiet (fail)
            go_wp2
            go_roundw
            case rel => exact ⟨k + 1, by omega, by go_num, Hin.out.go (drewNb _ _), Hr⟩
            case measure => simp [intOf]; omega
        · have hge : ¬ (k : Int) < (n2 : Int) := by omega
          obtain rfl : q = true := by rw [HQ2.out, Hk.out, anyFrom_end _ _ _ (by rw [← H2.out]; omega)]; rfl
          have Hi := Lib.hid hin
          clear hin
          go_wp2
          go_ret
          exact ⟨rfl, Hi.out.old⟩

theorem hasTr_any (a : Option Addr) (n cap k : Nat) (hk : k < n) (w : World) : Calls Try.prog 104 #[.slice a n cap, .int .i64 k] w fun e w' => e = .returned (.bool true) ∧ w = w' := by
  have h1 : (0 : Int) ≤ (k : Int) := by omega
  have h2 : (k : Int) < (n : Int) := by omega
  go_enter Try.func104, Try.ntmps104
  go_wp2
  go_ret
  exact ⟨rfl, rfl⟩

/-- is a ahead of b? -/
def aheadB (pa pb : Int) (a b : Nat) : Bool := decide (pa < pb) || (decide (pa = pb) && decide (a < b))

set_option maxRecDepth 100000 in
set_option maxHeartbeats 4000000 in
theorem ahead_any {w : World} {n : Nt} {ap at_ : Option Addr} {cp ct np nt : Nat} (hnt : nt = n.trans.length) (h : NetAt w (.slice ap np cp) (.slice at_ nt ct) n) {a b : Nat} {ta tb : Tr} (ha : n.trans[a]? = some ta) (hb : n.trans[b]? = some tb) (q : Bool) (hq : q = aheadB ta.prio tb.prio a b) :
    Calls Try.prog 101 #[.agg #[.slice ap np cp, .slice at_ nt ct], .int .i64 a, .int .i64 b] w fun e w' => e = .returned (.bool q) ∧ Below w.heap.size w w' := by
  have hla : a < nt := by rw [hnt]; exact lt_at ha
  have hlb : b < nt := by rw [hnt]; exact lt_at hb
  have hai : (a : Int) < (nt : Int) := by omega
  have hbi : (b : Int) < (nt : Int) := by omega
  obtain ⟨_, l, hl, ht⟩ := h
  obtain ⟨b1, off1, a1, c1, a2, c2, a3, c3, rfl, hbw, e0, e1, e2, e3, e4, e5, _, _, _⟩ := ht.at_ (i := a) (t := ta) (by rw [hl]; exact ha)
  obtain ⟨b2, off2, a1', c1', a2', c2', a3', c3', eq, hbw', f0, f1, f2, f3, f4, f5, _, _, _⟩ := ht.at_ (i := b) (t := tb) (by rw [hl]; exact hb)
  injection eq with eq
  injection eq with eq1 eq2 _
  subst eq1; subst eq2
  obtain ⟨pa, hpa⟩ : ∃ x, x = ta.prio := ⟨_, rfl⟩
  obtain ⟨pb, hpb⟩ : ∃ x, x = tb.prio := ⟨_, rfl⟩
  rw [← hpa] at e2 hq
  rw [← hpb] at f2 hq
  have Hb := Lib.hid ((Below.refl w.heap.size w).alloc (Nat.le_refl _) (.cells #[.slice ap np cp, .slice (some ⟨b1, off1, none⟩) nt ct] 31))
  clear hpa hpb hl ht ha hb hnt e0 e1 e3 e4 e5 f0 f1 f3 f4 f5
  unfold aheadB at hq
  by_cases g1 : pa < pb
  · obtain rfl : q = true := by rw [hq]; simp [g1]
    clear hq
    go_enter Try.func101, Try.ntmps101
    go_wp2_with (go_at_call 104; refine (hasTr_any _ _ _ _ (by assumption) _).mono ?_; rintro e w' ⟨rfl, rfl⟩)
    go_quiet (fail)
    go_wp2
    go_ret
    exact ⟨rfl, Hb.out.trans ((drewNb _ _).mono Hb.out.size)⟩
  have g1b : decide (pa < pb) = false := decide_eq_false g1
  by_cases g2 : pa = pb
  · subst g2
    have hq2 : q = decide (a < b) := by rw [hq]; simp
    clear hq
    by_cases g3 : a < b
    · have g3i : (a : Int) < (b : Int) := by omega
      obtain rfl : q = true := by rw [hq2]; simp [g3]
      clear hq2
      go_enter Try.func101, Try.ntmps101
      go_wp2_with (go_at_call 104; refine (hasTr_any _ _ _ _ (by assumption) _).mono ?_; rintro e w' ⟨rfl, rfl⟩)
      go_quiet (fail)
      go_wp2
      go_ret
      exact ⟨rfl, Hb.out.trans ((drewNb _ _).mono Hb.out.size)⟩
    · have g3b : decide ((a : Int) < (b : Int)) = false := decide_eq_false (by omega)
      obtain rfl : q = false := by rw [hq2]; simp [g3]
      clear hq2
      go_enter Try.func101, Try.ntmps101
      go_wp2_with (go_at_call 104; refine (hasTr_any _ _ _ _ (by assumption) _).mono ?_; rintro e w' ⟨rfl, rfl⟩)
      go_quiet (fail)
      go_wp2
      go_ret
      exact ⟨rfl, Hb.out.trans ((drewNb _ _).mono Hb.out.size)⟩
  · have g2b : decide (pa = pb) = false := decide_eq_false g2
    obtain rfl : q = false := by rw [hq]; simp [g1, g2]
    clear hq
    go_enter Try.func101, Try.ntmps101
    go_wp2_with (go_at_call 104; refine (hasTr_any _ _ _ _ (by assumption) _).mono ?_; rintro e w' ⟨rfl, rfl⟩)
    go_quiet (fail)
    go_wp2
    go_ret
    exact ⟨rfl, Hb.out.trans ((drewNb _ _).mono Hb.out.size)⟩
end Go.Proofs.Ytpfdmmidomofdaa
