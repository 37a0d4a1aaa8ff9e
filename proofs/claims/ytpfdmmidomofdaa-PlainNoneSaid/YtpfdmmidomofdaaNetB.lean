/-
  What net's tooLong, Names and goodNames come to.
  Conditions: none beyond each theorem's own.
-/
import Derived.Test.YtpfdmmidomofdaaNetA
namespace Go.Proofs.Ytpfdmmidomofdaa
open Go.RowKit
set_option linter.unusedVariables false

theorem ret_int {a b : Int} (h : a = b) : Ending.returned (.int .i64 a) = .returned (.int .i64 b) := by rw [h]

set_option maxRecDepth 100000 in
set_option maxHeartbeats 1000000 in
theorem tooLong_any {w : World} {n : Nt} {ap at_ : Option Addr} {cp ct : Nat} (h : NetAt w (.slice ap n.places.length cp) (.slice at_ n.trans.length ct) n) :
    Calls Try.prog 54 #[.agg #[.slice ap n.places.length cp, .slice at_ n.trans.length ct]] w fun e w' => e = .returned (.bool (tooLongB n)) ∧ Below w.heap.size w w' := by
  obtain ⟨_, l, hts, ht⟩ := h
  have hc := conLong_any hts (TrsAt.below ht ((Below.refl _ _).alloc (Nat.le_refl _) (.cells #[.slice ap n.places.length cp, .slice at_ n.trans.length ct] 31)))
  have hq : tooLongB n = (decide (32 < n.places.length) || (decide (32 < n.trans.length) || n.trans.any longT)) := rfl
  clear hts ht
  revert hc hq
  generalize n.places.length = np
  generalize n.trans.length = nt
  generalize n.trans.any longT = z
  generalize tooLongB n = q
  intro hc hq
  replace hc := Lib.hid hc
  by_cases h1 : 32 < np
  · obtain rfl : q = true := by rw [hq]; simp [h1]
    have h1i : (32 : Int) < (np : Int) := by omega
    clear hq
    go_enter Try.func54, Try.ntmps54
    go_wp2
    go_ret
    exact ⟨rfl, (Below.refl _ _).alloc (Nat.le_refl _) _⟩
  · have h1i : ¬ (32 : Int) < (np : Int) := by omega
    have h1b : decide ((32 : Int) < (np : Int)) = false := decide_eq_false h1i
    have h1c : decide (32 < np) = false := decide_eq_false h1
    by_cases h2 : 32 < nt
    · obtain rfl : q = true := by rw [hq]; simp [h2]
      have h2i : (32 : Int) < (nt : Int) := by omega
      clear hq
      go_enter Try.func54, Try.ntmps54
      go_wp2
      go_ret
      exact ⟨rfl, (Below.refl _ _).alloc (Nat.le_refl _) _⟩
    · have h2i : ¬ (32 : Int) < (nt : Int) := by omega
      have h2b : decide ((32 : Int) < (nt : Int)) = false := decide_eq_false h2i
      have h2c : decide (32 < nt) = false := decide_eq_false h2
      obtain rfl : q = z := by rw [hq, h1c, h2c]; rfl
      clear hq
      go_enter Try.func54, Try.ntmps54
      go_wp2_with fail
      refine hc.out.mono ?_
      rintro e w' ⟨rfl, hb⟩
      go_wp2
      go_ret
      exact ⟨rfl, ((Below.refl _ _).alloc (Nat.le_refl _) _).trans (hb.mono (by simp))⟩

set_option maxRecDepth 100000 in
theorem idxS_any {w : World} {l : List ByteArray} {s : ByteArray} {a : Option Addr} {cap : Nat} (h : StrsAt w (.slice a l.length cap) l) :
    Calls Try.prog 99 #[.slice a l.length cap, .string s] w fun e w' => e = .returned (.int .i64 (idxOf (fun x => sEq x s) l)) ∧ w = w' := by
  have hmax := RowAt.max h
  obtain ⟨n, hn⟩ : ∃ n, n = l.length := ⟨_, rfl⟩
  rw [← hn] at h hmax ⊢
  have H := Lib.hid h
  have Hn := Lib.hid hn
  obtain ⟨q, hq⟩ : ∃ q, q = idxOf (fun x => sEq x s) l := ⟨_, rfl⟩
  rw [← hq]
  have Hq : Hid (q = idxFrom (fun x => sEq x s) l 0) := Lib.hid hq
  clear h hn hq
  go_enter Try.func99, Try.ntmps99
  go_wp2
  go_loop [8] (fun i => ∃ k : Nat, k ≤ n ∧ i = .int .i64 k ∧ Hid (q = idxFrom (fun x => sEq x s) l k)) (fun i => n - (intOf i).toNat)
  case atStart => exact ⟨0, by omega, rfl, Hq⟩
  case round =>
    obtain ⟨k, hk, rfl, Hk⟩ := hrel
    by_cases hlt : k < n
    · obtain ⟨x, hx⟩ := at_lt (l := l) (k := k) (by rw [← Hn.out]; exact hlt)
      have hlti : (k : Int) < (n : Int) := by omega
      obtain ⟨b, off, rfl, hbw, e0⟩ := StrsAt.at_ H.out hx
      have Hx := Lib.hid hx
      clear hx
      cases hf : sEq x s with
      | true =>
        have Hr : Hid (q = (k : Int)) := Lib.hid (by rw [Hk.out]; exact idxFrom_yes Hx.out hf)
        have hf2 : (s.toList == x.toList) = true := by rw [sEq_toList, sEq_comm]; exact hf
        clear hf
        go_wp2
        go_ret
        exact ⟨by rw [Hr.out]; rfl, rfl⟩
      | false =>
        have Hr : Hid (q = idxFrom (fun x => sEq x s) l (k + 1)) := Lib.hid (by rw [Hk.out]; exact idxFrom_no Hx.out hf)
        have hf2 : (s.toList == x.toList) = false := by rw [sEq_toList, sEq_comm]; exact hf
        clear hf
        go_wp2
        go_round
        case rel => exact ⟨k + 1, by omega, by go_num, Hr⟩
        case measure => simp [intOf]; omega
    · have hge : ¬ (k : Int) < (n : Int) := by omega
      have Hr : Hid (q = -1) := Lib.hid (by rw [Hk.out]; exact idxFrom_end _ _ _ (by rw [← Hn.out]; omega))
      go_wp2
      go_ret
      exact ⟨by rw [Hr.out]; rfl, rfl⟩

set_option maxRecDepth 100000 in
theorem conS_any {w : World} {l : List ByteArray} {s : ByteArray} {a : Option Addr} {n cap : Nat} (hn : n = l.length) (h : StrsAt w (.slice a n cap) l) :
    Calls Try.prog 79 #[.slice a n cap, .string s] w fun e w' => e = .returned (.bool (hasS l s)) ∧ w = w' := by
  subst hn
  have hc := idxS_any (s := s) h
  have h1 : hasS l s = true → 0 ≤ idxOf (fun x => sEq x s) l := fun e => idxOf_yes e
  have h2 : hasS l s = false → idxOf (fun x => sEq x s) l = -1 := fun e => idxOf_no e
  clear h
  revert hc h1 h2
  generalize hasS l s = z
  generalize l.length = n
  generalize idxOf (fun x => sEq x s) l = q
  intro hc h1 h2
  replace hc := Lib.hid hc
  replace h1 := Lib.hid h1
  replace h2 := Lib.hid h2
  cases z with
  | true =>
    have g : 0 ≤ q := h1.out rfl
    go_enter Try.func79, Try.ntmps79
    go_wp2_with fail
    refine hc.out.mono ?_
    rintro e w' ⟨rfl, rfl⟩
    go_wp2
    go_ret
    exact ⟨rfl, rfl⟩
  | false =>
    obtain rfl : q = -1 := h2.out rfl
    go_enter Try.func79, Try.ntmps79
    go_wp2_with fail
    refine hc.out.mono ?_
    rintro e w' ⟨rfl, rfl⟩
    go_wp2
    go_ret
    exact ⟨rfl, rfl⟩

theorem strs_take (l : List ByteArray) (k : Nat) : (l.flatMap strL).take (k * 1) = (l.take k).flatMap strL := by
  rw [Nat.mul_one]
  induction l generalizing k with
  | nil => simp
  | cons s l ih =>
    cases k with
    | zero => simp
    | succ k => simp [strL, ih]

theorem StrsAt.take {w : World} {l : List ByteArray} {a : Option Addr} {cap : Nat} (h : StrsAt w (.slice a l.length cap) l) (k : Nat) (hk : k ≤ l.length) : StrsAt w (.slice a k cap) (l.take k) := by
  have e : (l.take k).length = k := by rw [List.length_take]; omega
  have := RowAt.take h k hk
  rw [strs_take] at this
  unfold StrsAt
  rw [e]
  exact this

/-- a name's contract that keeps what was -/
theorem lexName_any (s : ByteArray) (w : World) (hmax : s.size ≤ 9223372036854775807) (q : Bool) (hq : nameB s.data.toList = q) :
    Calls Try.prog 78 #[.string s] w fun e w' => e = .returned (.bool q) ∧ Below w.heap.size w w' := by
  subst hq; exact name_any s w hmax

set_option maxRecDepth 100000 in
set_option maxHeartbeats 1000000 in
theorem goodNames_any {w : World} {l : List ByteArray} {a : Option Addr} {cap : Nat} (h : StrsAt w (.slice a l.length cap) l) (hs : ∀ s ∈ l, s.size ≤ 9223372036854775807) :
    Calls Try.prog 55 #[.slice a l.length cap] w fun e w' => e = .returned (.bool (!namesBad [] l)) ∧ Below w.heap.size w w' := by
  have hmax := RowAt.max h
  obtain ⟨n, hn⟩ : ∃ n, n = l.length := ⟨_, rfl⟩
  have H := Lib.hid h
  have hcap : n ≤ cap := by obtain ⟨_, a', c', e, e1, _⟩ := h; injection e with _ _ e3; omega
  have HS := Lib.hid hs
  rw [← hn] at hmax ⊢
  have Hn := Lib.hid hn
  obtain ⟨q, hq⟩ : ∃ q, q = namesBad [] l := ⟨_, rfl⟩
  rw [← hq]
  have Hq : Hid (q = namesFrom l 0) := Lib.hid (by rw [namesFrom_zero]; exact hq)
  clear h hn hq hs
  go_enter Try.func55, Try.ntmps55
  go_wp2
  go_loopw [7] (fun i wr => ∃ k : Nat, k ≤ n ∧ i = .int .i64 k ∧ Below w.heap.size w wr ∧ Hid (q = namesFrom l k)) (fun i _ => n - (intOf i).toNat)
  case atStart => exact ⟨0, by omega, rfl, Below.refl _ _, Hq⟩
  case round =>
    obtain ⟨k, hk, rfl, hb, Hk⟩ := hrel
    by_cases hlt : k < n
    · obtain ⟨x, hx⟩ := at_lt (l := l) (k := k) (by rw [← Hn.out]; exact hlt)
      have hlti : (k : Int) < (n : Int) := by omega
      have Hl := Lib.hid (StrsAt.below H.out hb)
      obtain ⟨b, off, rfl, hbw, e0⟩ := StrsAt.at_ Hl.out hx
      have Hst := Lib.hid (namesFrom_step hx)
      have hsz := HS.out x (List.mem_of_getElem? hx)
      have Hb := Lib.hid hb
      clear hx hb
      cases hf : nameB x.data.toList with
      | false =>
        have Hr : Hid (q = true) := Lib.hid (by rw [Hk.out, Hst.out, if_pos hf])
        have HF := Lib.hid hf
        clear hf
        go_wp2_with (go_at_call 78; refine (lexName_any _ _ hsz false HF.out).mono ?_; rintro e w' ⟨rfl, hb'⟩; have HB := Lib.hid hb'; clear hb')
        go_ret
        exact ⟨by rw [Hr.out]; rfl, Hb.out.trans (HB.out.mono Hb.out.size)⟩
      | true =>
        have Hst2 : Hid (namesFrom l k = if hasS (l.take k) x = true then true else namesFrom l (k + 1)) := Lib.hid (by rw [Hst.out, if_neg (by rw [hf]; simp)])
        have HF := Lib.hid hf
        clear hf
        go_wp2_with fail
        refine (lexName_any _ _ hsz true HF.out).mono ?_
        rintro e w' ⟨rfl, hb'⟩
        have Htk := Lib.hid (StrsAt.take (StrsAt.below Hl.out hb') k (by rw [← Hn.out]; exact hk))
        have HB := Lib.hid hb'
        clear hb'
        have hkc : (k : Int) ≤ (cap : Int) := by omega
        cases hg : hasS (l.take k) x with
        | true =>
          have Hr : Hid (q = true) := Lib.hid (by rw [Hk.out, Hst2.out, if_pos hg])
          have HG := Lib.hid hg
          clear hg
          go_wp2_with (go_at_call 79; refine (conS_any (l := l.take k) (by rw [List.length_take, ← Hn.out]; omega) Htk.out).mono ?_; rintro e w' ⟨rfl, rfl⟩; rw [HG.out])
          go_ret
          exact ⟨by rw [Hr.out]; rfl, Hb.out.trans (HB.out.mono Hb.out.size)⟩
        | false =>
          have Hr : Hid (q = namesFrom l (k + 1)) := Lib.hid (by rw [Hk.out, Hst2.out, if_neg (by rw [hg]; simp)])
          have HG := Lib.hid hg
          clear hg
          go_wp2_with (go_at_call 79; refine (conS_any (l := l.take k) (by rw [List.length_take, ← Hn.out]; omega) Htk.out).mono ?_; rintro e w' ⟨rfl, rfl⟩; rw [HG.out])
          go_roundw
          case rel => exact ⟨k + 1, by omega, by go_num, Hb.out.trans (HB.out.mono Hb.out.size), Hr⟩
          case measure => simp [intOf]; omega
    · have hge : ¬ (k : Int) < (n : Int) := by omega
      have Hr : Hid (q = false) := Lib.hid (by rw [Hk.out]; exact namesFrom_end _ _ (by rw [← Hn.out]; omega))
      have Hb := Lib.hid hb
      clear hb
      go_wp2
      go_ret
      exact ⟨by rw [Hr.out]; rfl, Hb.out⟩
end Go.Proofs.Ytpfdmmidomofdaa
