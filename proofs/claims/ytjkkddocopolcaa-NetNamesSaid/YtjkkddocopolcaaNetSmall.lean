/-
  What the laws' own test 'is a net not too long to be looked at?' comes to.
  Conditions: none beyond each theorem's own.
-/
import Derived.Test.YtjkkddocopolcaaNew
namespace Go.Proofs.Ytjkkddocopolcaa
open Go.RowKit
set_option linter.unusedVariables false

def bigT (t : Tr) : Bool := decide (12 < t.inn.length) || (decide (12 < t.nt.length) || (decide (12 < t.out.length) || decide (40 < t.name.size)))
def bigP (p : Pl) : Bool := decide (40 < p.name.size)
/-- is a net not too long to be looked at? -/
def bigN (n : Nt) : Bool := decide (40 < n.places.length) || (decide (40 < n.trans.length) || (n.trans.any bigT || n.places.any bigP))

theorem small_names {n : Nt} (h : bigN n = false) : ∀ s ∈ n.names, s.size ≤ 40 := by
  unfold bigN at h
  simp at h
  intro s hs
  unfold Nt.names at hs
  rw [List.mem_append, List.mem_map, List.mem_map] at hs
  rcases hs with ⟨p, hp, rfl⟩ | ⟨t, ht, rfl⟩
  · have := h.2.2.2 p hp; simp [bigP] at this; omega
  · have := h.2.2.1 t ht; simp [bigT] at this; omega

set_option maxRecDepth 100000 in
set_option maxHeartbeats 4000000 in
theorem small_any {w : World} {n : Nt} {ap at_ : Option Addr} {cp ct : Nat} (h : NetAt w (.slice ap n.places.length cp) (.slice at_ n.trans.length ct) n) :
    Calls Try.prog 11 #[.agg #[.slice ap n.places.length cp, .slice at_ n.trans.length ct]] w fun e w' => e = .returned (.bool (!bigN n)) ∧ Below w.heap.size w w' := by
  obtain ⟨q, hq⟩ : ∃ q, q = bigN n := ⟨_, rfl⟩
  rw [← hq]
  unfold bigN at hq
  obtain ⟨hpl, lt, hts, htr⟩ := h
  obtain ⟨np, hnp⟩ : ∃ k, k = n.places.length := ⟨_, rfl⟩
  obtain ⟨nt, hnt⟩ : ∃ k, k = n.trans.length := ⟨_, rfl⟩
  rw [← hnp] at hpl hq ⊢
  rw [← hnt] at htr hq ⊢
  have Hpl := Lib.hid hpl
  have Hts := Lib.hid hts
  have Htr := Lib.hid htr
  have Hnp := Lib.hid hnp
  have Hnt := Lib.hid hnt
  clear hpl hts htr hnp hnt
  by_cases h1 : 40 < np
  · have h1i : (40 : Int) < (np : Int) := by omega
    obtain rfl : q = true := by rw [hq]; simp [h1]
    clear hq
    go_enter Try.func11, Try.ntmps11
    go_wp2
    go_ret
    exact ⟨rfl, (Below.refl _ _).alloc (Nat.le_refl _) _⟩
  have h1i : ¬ (40 : Int) < (np : Int) := by omega
  have h1b : decide ((40 : Int) < (np : Int)) = false := decide_eq_false h1i
  have h1c : decide (40 < np) = false := decide_eq_false h1
  by_cases h2 : 40 < nt
  · have h2i : (40 : Int) < (nt : Int) := by omega
    obtain rfl : q = true := by rw [hq]; simp [h2]
    clear hq
    go_enter Try.func11, Try.ntmps11
    go_wp2
    go_ret
    exact ⟨rfl, (Below.refl _ _).alloc (Nat.le_refl _) _⟩
  have h2i : ¬ (40 : Int) < (nt : Int) := by omega
  have h2b : decide ((40 : Int) < (nt : Int)) = false := decide_eq_false h2i
  have h2c : decide (40 < nt) = false := decide_eq_false h2
  have HQ : Hid (q = (n.trans.any bigT || n.places.any bigP)) := Lib.hid (by rw [hq, h1c, h2c]; rfl)
  clear hq
  go_enter Try.func11, Try.ntmps11
  go_wp2
  clear h1b h1c h2b h2c
  go_loopw [3] (fun i wr => ∃ k : Nat, k ≤ nt ∧ i = .int .i64 k ∧ InBox w wr (.slice ap np cp) (.slice at_ nt ct) ∧ Hid (n.trans.any bigT = anyFrom bigT n.trans k)) (fun i _ => nt - (intOf i).toNat)
  case atStart => exact ⟨0, by omega, rfl, InBox.start _ _ _, Lib.hid (by rw [anyFrom_zero])⟩
  case round =>
    rename World => v1
    obtain ⟨k, hk, rfl, hin, Hk⟩ := hrel
    have hc1 := hin.c1
    by_cases hlt : k < nt
    · obtain ⟨t, ht⟩ := at_lt (l := n.trans) (k := k) (by rw [← Hnt.out]; exact hlt)
      have hlti : (k : Int) < (nt : Int) := by omega
      obtain ⟨b, off, a1, c1, a2, c2, a3, c3, rfl, hbw, e0, e1, e2, e3, e4, e5, _, _, _⟩ := (Htr.out.below hin.old).at_ (i := k) (t := t) (by rw [Hts.out]; exact ht)
      have Hyes : Hid (bigT t = true → q = true) := Lib.hid (fun e => by rw [HQ.out, Hk.out, anyFrom_yes ht e]; rfl)
      have Hno : Hid (bigT t = false → n.trans.any bigT = anyFrom bigT n.trans (k + 1)) := Lib.hid (fun e => by rw [Hk.out]; exact anyFrom_no ht e)
      have Hbig : Hid (bigT t = (decide (12 < t.inn.length) || (decide (12 < t.nt.length) || (decide (12 < t.out.length) || decide (40 < t.name.size))))) := Lib.hid rfl
      have Hin := Lib.hid (hin.alloc (.cells #[.string t.name, .int .i64 t.delay, .int .i64 t.prio, .slice a1 t.inn.length c1, .slice a2 t.nt.length c2, .slice a3 t.out.length c3] 42))
      obtain ⟨n1, hn1⟩ : ∃ n, n = t.inn.length := ⟨_, rfl⟩
      obtain ⟨n2, hn2⟩ : ∃ n, n = t.nt.length := ⟨_, rfl⟩
      obtain ⟨n3, hn3⟩ : ∃ n, n = t.out.length := ⟨_, rfl⟩
      obtain ⟨s, hs⟩ : ∃ s, s = t.name := ⟨_, rfl⟩
      rw [← hn1] at e3 Hbig Hin
      rw [← hn2] at e4 Hbig Hin
      rw [← hn3] at e5 Hbig Hin
      rw [← hs] at e0 Hbig Hin
      clear ht hin hn1 hn2 hn3 hs
      by_cases g1 : 12 < n1
      · have g1i : (12 : Int) < (n1 : Int) := by omega
        obtain rfl : q = true := Hyes.out (by rw [Hbig.out]; simp [g1])
        go_wp2
        go_ret
        exact ⟨rfl, Hin.out.old⟩
      have g1i : ¬ (12 : Int) < (n1 : Int) := by omega
      have g1b : decide ((12 : Int) < (n1 : Int)) = false := decide_eq_false g1i
      have g1c : decide (12 < n1) = false := decide_eq_false g1
      by_cases g2 : 12 < n2
      · have g2i : (12 : Int) < (n2 : Int) := by omega
        obtain rfl : q = true := Hyes.out (by rw [Hbig.out]; simp [g2])
        go_wp2
        go_ret
        exact ⟨rfl, Hin.out.old⟩
      have g2i : ¬ (12 : Int) < (n2 : Int) := by omega
      have g2b : decide ((12 : Int) < (n2 : Int)) = false := decide_eq_false g2i
      have g2c : decide (12 < n2) = false := decide_eq_false g2
      by_cases g3 : 12 < n3
      · have g3i : (12 : Int) < (n3 : Int) := by omega
        obtain rfl : q = true := Hyes.out (by rw [Hbig.out]; simp [g3])
        go_wp2
        go_ret
        exact ⟨rfl, Hin.out.old⟩
      have g3i : ¬ (12 : Int) < (n3 : Int) := by omega
      have g3b : decide ((12 : Int) < (n3 : Int)) = false := decide_eq_false g3i
      have g3c : decide (12 < n3) = false := decide_eq_false g3
      by_cases g4 : 40 < s.size
      · have g4i : (40 : Int) < (s.size : Int) := by omega
        obtain rfl : q = true := Hyes.out (by rw [Hbig.out]; simp [g4])
        go_wp2
        go_ret
        exact ⟨rfl, Hin.out.old⟩
      have g4i : ¬ (40 : Int) < (s.size : Int) := by omega
      have g4b : decide ((40 : Int) < (s.size : Int)) = false := decide_eq_false g4i
      have g4c : decide (40 < s.size) = false := decide_eq_false g4
      have Hr := Lib.hid (Hno.out (by rw [Hbig.out, g1c, g2c, g3c, g4c]; rfl))
      go_wp2
      go_roundw
      case rel => exact ⟨k + 1, by omega, by go_num, Hin.out, Hr⟩
      case measure => simp [intOf]; omega
    · have hge : ¬ (k : Int) < (nt : Int) := by omega
      have HQ2 : Hid (q = n.places.any bigP) := Lib.hid (by
        have e0 : n.trans.any bigT = false := by rw [Hk.out]; exact anyFrom_end _ _ _ (by rw [← Hnt.out]; omega)
        rw [HQ.out, e0]; rfl)
      have Hi := Lib.hid hin
      clear hin
      go_wp2
      clear hc1
      go_loopw [5] (fun i wr => ∃ k : Nat, k ≤ np ∧ i = .int .i64 k ∧ InBox w wr (.slice ap np cp) (.slice at_ nt ct) ∧ Hid (n.places.any bigP = anyFrom bigP n.places k)) (fun i _ => np - (intOf i).toNat)
      case atStart => exact ⟨0, by omega, rfl, Hi.out, Lib.hid (by rw [anyFrom_zero])⟩
      case round =>
        rename World => v2
        obtain ⟨k, hk, rfl, hin, Hk⟩ := hrel
        have hc0 := hin.c0
        by_cases hlt : k < np
        · obtain ⟨x, hx⟩ := at_lt (l := n.places) (k := k) (by rw [← Hnp.out]; exact hlt)
          have hlti : (k : Int) < (np : Int) := by omega
          obtain ⟨b, off, rfl, hbw, e0, e1⟩ := PlsAt.at_ (PlsAt.below Hpl.out hin.old) hx
          have Hin := Lib.hid hin
          have Hyes : Hid (bigP x = true → q = true) := Lib.hid (fun e => by rw [HQ2.out, Hk.out, anyFrom_yes hx e])
          have Hno : Hid (bigP x = false → n.places.any bigP = anyFrom bigP n.places (k + 1)) := Lib.hid (fun e => by rw [Hk.out]; exact anyFrom_no hx e)
          have Hbig : Hid (bigP x = decide (40 < x.name.size)) := Lib.hid rfl
          obtain ⟨s, hs⟩ : ∃ s, s = x.name := ⟨_, rfl⟩
          rw [← hs] at e0 Hbig
          clear hx hin hs
          by_cases g4 : 40 < s.size
          · have g4i : (40 : Int) < (s.size : Int) := by omega
            obtain rfl : q = true := Hyes.out (by rw [Hbig.out]; simp [g4])
            go_wp2
            go_ret
            exact ⟨rfl, Hin.out.old⟩
          have g4i : ¬ (40 : Int) < (s.size : Int) := by omega
          have g4c : decide (40 < s.size) = false := decide_eq_false g4
          have Hr := Lib.hid (Hno.out (by rw [Hbig.out, g4c]))
          go_wp2
          go_roundw
          case rel => exact ⟨k + 1, by omega, by go_num, Hin.out, Hr⟩
          case measure => simp [intOf]; omega
        · have hge : ¬ (k : Int) < (np : Int) := by omega
          obtain rfl : q = false := by rw [HQ2.out, Hk.out]; exact anyFrom_end _ _ _ (by rw [← Hnp.out]; omega)
          have Hi := Lib.hid hin
          clear hin
          go_wp2
          go_ret
          exact ⟨rfl, Hi.out.old⟩
end Go.Proofs.Ytjkkddocopolcaa
