/-
  What net's small functions come to: numbers in their bounds; the longest of three lists; is a net too long? What net's tooLong, Names and goodNames come to. Rows of texts that a call has made; what Names of net comes to. What net's checkArcs comes to: the first error of some lists of arcs. What net's Check comes to: the first error of any net. Nets laid by hand: cells one by one; what Check comes to there. A region whose operations only read, and whose callees only make new memory, walked once in the order of the text.
  Conditions: none beyond each theorem's own.
-/
import Derived.Test.YtpbbdnicafifpaaRowAt
/-! ## NetA -/
namespace Go.Proofs.Ytpbbdnicafifpaa
open Go.RowKit
set_option linter.unusedVariables false

theorem bounds_any (n l : Int) (w : World) : Calls Try.prog 76 #[.int .i64 n, .int .i64 l] w fun e w' => e = .returned (.bool (numB l n)) ∧ w = w' := by
  by_cases h1 : l ≤ n
  · by_cases h2 : n ≤ 1000000
    · have e : numB l n = true := by simp [numB, h1, h2]
      rw [e]
      clear e
      go_enter Try.func76, Try.ntmps76
      go_wp2
      go_ret
      exact ⟨rfl, rfl⟩
    · have h2b : decide (n ≤ 1000000) = false := decide_eq_false h2
      have e : numB l n = false := by simp [numB, h1, h2b]
      rw [e]
      clear e
      go_enter Try.func76, Try.ntmps76
      go_wp2
      go_ret
      exact ⟨rfl, rfl⟩
  · have h1b : decide (l ≤ n) = false := decide_eq_false h1
    have e : numB l n = false := by simp [numB, h1b]
    rw [e]
    clear e
    go_enter Try.func76, Try.ntmps76
    go_wp2
    go_ret
    exact ⟨rfl, rfl⟩

/-- the longest of three -/
def max3 (a b c : Nat) : Nat := max (max a b) c

set_option maxRecDepth 100000 in
theorem longest_any (r cap n1 n2 n3 c1 c2 c3 : Nat) (a1 a2 a3 : Option Addr) (w : World) (h1 : w.cell? ⟨r, 0, none⟩ = some (.slice a1 n1 c1)) (h2 : w.cell? ⟨r, 1, none⟩ = some (.slice a2 n2 c2)) (h3 : w.cell? ⟨r, 2, none⟩ = some (.slice a3 n3 c3)) :
    Calls Try.prog 95 #[.slice (some ⟨r, 0, none⟩) 3 cap] w fun e w' => e = .returned (.int .i64 (max3 n1 n2 n3 : Nat)) ∧ w = w' := by
  obtain ⟨m1, hm1⟩ : ∃ m, m = max n1 n2 := ⟨_, rfl⟩
  obtain ⟨m2, hm2⟩ : ∃ m, m = max3 n1 n2 n3 := ⟨_, rfl⟩
  have e2 : max (n1 : Int) (n2 : Int) = (m1 : Int) := by omega
  have e3 : max (m1 : Int) (n3 : Int) = (m2 : Int) := by unfold max3 at hm2; omega
  have e1 : max (0 : Int) (n1 : Int) = (n1 : Int) := by omega
  rw [← hm2]
  clear hm1 hm2
  go_enter Try.func95, Try.ntmps95
  go_wp2
  go_loop [3, 8] (fun m i => (i = .int .i64 0 ∧ m = .int .i64 0) ∨ (i = .int .i64 1 ∧ m = .int .i64 n1) ∨ (i = .int .i64 2 ∧ m = .int .i64 m1) ∨ (i = .int .i64 3 ∧ m = .int .i64 m2)) (fun _ i => 3 - (intOf i).toNat)
  case atStart => exact .inl ⟨rfl, rfl⟩
  case round =>
    rcases hrel with ⟨rfl, rfl⟩ | ⟨rfl, rfl⟩ | ⟨rfl, rfl⟩ | ⟨rfl, rfl⟩
    · go_wp2
      go_round
      case rel => exact .inr (.inl ⟨by go_num, rfl⟩)
      case measure => simp [intOf]
    · go_wp2
      go_round
      case rel => exact .inr (.inr (.inl ⟨by go_num, rfl⟩))
      case measure => simp [intOf]
    · go_wp2
      go_round
      case rel => exact .inr (.inr (.inr ⟨by go_num, rfl⟩))
      case measure => simp [intOf]
    · go_wp2
      go_ret
      exact ⟨rfl, rfl⟩

/-- what is new lies behind what was -/
theorem below_cells {W w1 : World} (hb : Below W.heap.size W w1) : (∀ b o, b < W.heap.size → w1.cell? ⟨b, o, none⟩ = W.cell? ⟨b, o, none⟩) :=
  fun b o h => hb.cell (p := ⟨b, o, none⟩) h

/-- a transition's value -/
abbrev trV (s : ByteArray) (d p : Int) (a1 : Option Addr) (n1 c1 : Nat) (a2 : Option Addr) (n2 c2 : Nat) (a3 : Option Addr) (n3 c3 : Nat) : Value :=
  .agg #[.string s, .int .i64 d, .int .i64 p, .slice a1 n1 c1, .slice a2 n2 c2, .slice a3 n3 c3]

def long3 (a b c : Nat) : Bool := decide (8 < max3 a b c)

set_option maxRecDepth 100000 in
theorem long1_any (s : ByteArray) (d p : Int) (a1 a2 a3 : Option Addr) (n1 c1 n2 c2 n3 c3 : Nat) (w : World) :
    Calls Try.prog 94 #[trV s d p a1 n1 c1 a2 n2 c2 a3 n3 c3] w fun e w' => e = .returned (.bool (long3 n1 n2 n3)) ∧ Below w.heap.size w w' := by
  obtain ⟨m, hm⟩ : ∃ m, m = max3 n1 n2 n3 := ⟨_, rfl⟩
  have Hm := Lib.hid hm
  have e : long3 n1 n2 n3 = decide (8 < m) := by rw [hm]; rfl
  rw [e]
  clear e hm
  by_cases h8 : 8 < m
  · have h8i : (8 : Int) < (m : Int) := by omega
    go_enter Try.func94, Try.ntmps94
    go_wp2_with (go_at_call 95; refine (longest_any _ _ n1 n2 n3 c1 c2 c3 a1 a2 a3 _ (by go_simp) (by go_simp) (by go_simp)).mono ?_; rintro e w' ⟨rfl, rfl⟩; rw [← Hm.out])
    go_ret
    exact ⟨by simp [h8], ((Below.refl _ _).alloc (Nat.le_refl _) _).alloc (by simp) _⟩
  · have h8i : ¬ (8 : Int) < (m : Int) := by omega
    have h8b : decide ((8 : Int) < (m : Int)) = false := decide_eq_false h8i
    have h8c : decide (8 < m) = false := decide_eq_false h8
    go_enter Try.func94, Try.ntmps94
    go_wp2_with (go_at_call 95; refine (longest_any _ _ n1 n2 n3 c1 c2 c3 a1 a2 a3 _ (by go_simp) (by go_simp) (by go_simp)).mono ?_; rintro e w' ⟨rfl, rfl⟩; rw [← Hm.out])
    go_ret
    exact ⟨by simp [h8], ((Below.refl _ _).alloc (Nat.le_refl _) _).alloc (by simp) _⟩

set_option maxRecDepth 100000 in
set_option maxHeartbeats 1000000 in
theorem idxLong_any {w : World} {l : List (Tr × Value × Value × Value)} {ts : List Tr} (hts : l.map (·.1) = ts) {a : Option Addr} {cap : Nat} (h : TrsAt w (.slice a ts.length cap) l) :
    Calls Try.prog 111 #[.slice a ts.length cap, .func (.func 94) #[] #[]] w fun e w' => e = .returned (.int .i64 (idxOf longT ts)) ∧ Below w.heap.size w w' := by
  obtain ⟨n, hn⟩ : ∃ n, n = ts.length := ⟨_, rfl⟩
  have hmax : n ≤ 9223372036854775807 := by have := RowAt.max h.1; rw [hn, ← hts, List.length_map]; exact this
  rw [← hn] at h ⊢
  have H := Lib.hid h
  have Hts := Lib.hid hts
  have Hn := Lib.hid hn
  obtain ⟨q, hq⟩ : ∃ q, q = idxOf longT ts := ⟨_, rfl⟩
  rw [← hq]
  have Hq : Hid (q = idxFrom longT ts 0) := Lib.hid hq
  clear h hts hn hq
  go_enter Try.func111, Try.ntmps111
  go_wp2
  go_loopw [8] (fun i wr => ∃ k : Nat, k ≤ n ∧ i = .int .i64 k ∧ Below w.heap.size w wr ∧ Hid (q = idxFrom longT ts k)) (fun i _ => n - (intOf i).toNat)
  case atStart => exact ⟨0, by omega, rfl, Below.refl _ _, Hq⟩
  case round =>
    obtain ⟨k, hk, rfl, hb, Hk⟩ := hrel
    by_cases hlt : k < n
    · obtain ⟨t, ht⟩ := at_lt (l := ts) (k := k) (by rw [← Hn.out]; exact hlt)
      have hlti : (k : Int) < (n : Int) := by omega
      obtain ⟨b, off, a1, c1, a2, c2, a3, c3, rfl, hbw, e0, e1, e2, e3, e4, e5, _, _, _⟩ := (H.out.below hb).at_ (i := k) (t := t) (by rw [Hts.out]; exact ht)
      have Ht := Lib.hid ht
      have Hb := Lib.hid hb
      obtain ⟨n1, hn1⟩ : ∃ n, n = t.inn.length := ⟨_, rfl⟩
      obtain ⟨n2, hn2⟩ : ∃ n, n = t.nt.length := ⟨_, rfl⟩
      obtain ⟨n3, hn3⟩ : ∃ n, n = t.out.length := ⟨_, rfl⟩
      obtain ⟨s, hs⟩ : ∃ s, s = t.name := ⟨_, rfl⟩
      obtain ⟨d, hd⟩ : ∃ s, s = t.delay := ⟨_, rfl⟩
      obtain ⟨p, hp⟩ : ∃ s, s = t.prio := ⟨_, rfl⟩
      have Hf : Hid (longT t = long3 n1 n2 n3) := Lib.hid (by rw [hn1, hn2, hn3]; rfl)
      rw [← hn1] at e3; rw [← hn2] at e4; rw [← hn3] at e5
      rw [← hs] at e0; rw [← hd] at e1; rw [← hp] at e2
      clear ht hb hn1 hn2 hn3 hs hd hp
      cases hf : long3 n1 n2 n3 with
      | true =>
        have Hr : Hid (q = (k : Int)) := Lib.hid (by rw [Hk.out]; exact idxFrom_yes Ht.out (by rw [Hf.out]; exact hf))
        have HF := Lib.hid hf
        clear hf
        go_wp2_with (go_at_call 94; refine (long1_any _ _ _ _ _ _ _ _ _ _ _ _ _).mono ?_; rintro e w' ⟨rfl, hb'⟩; have HB := Lib.hid hb'; clear hb'; rw [HF.out])
        go_ret
        exact ⟨by rw [Hr.out]; rfl, Hb.out.trans (HB.out.mono Hb.out.size)⟩
      | false =>
        have Hr : Hid (q = idxFrom longT ts (k + 1)) := Lib.hid (by rw [Hk.out]; exact idxFrom_no Ht.out (by rw [Hf.out]; exact hf))
        have HF := Lib.hid hf
        clear hf
        go_wp2_with (go_at_call 94; refine (long1_any _ _ _ _ _ _ _ _ _ _ _ _ _).mono ?_; rintro e w' ⟨rfl, hb'⟩; have HB := Lib.hid hb'; clear hb'; rw [HF.out])
        go_roundw
        case rel => exact ⟨k + 1, by omega, by go_num, Hb.out.trans (HB.out.mono Hb.out.size), Hr⟩
        case measure => simp [intOf]; omega
    · have hge : ¬ (k : Int) < (n : Int) := by omega
      have Hr : Hid (q = -1) := Lib.hid (by rw [Hk.out]; exact idxFrom_end _ _ _ (by rw [← Hn.out]; omega))
      have Hb := Lib.hid hb
      clear hb
      go_wp2
      go_ret
      exact ⟨by rw [Hr.out]; rfl, Hb.out⟩

set_option maxRecDepth 100000 in
theorem conLong_any {w : World} {l : List (Tr × Value × Value × Value)} {ts : List Tr} (hts : l.map (·.1) = ts) {a : Option Addr} {cap : Nat} (h : TrsAt w (.slice a ts.length cap) l) :
    Calls Try.prog 93 #[.slice a ts.length cap, .func (.func 94) #[] #[]] w fun e w' => e = .returned (.bool (ts.any longT)) ∧ Below w.heap.size w w' := by
  have hc := idxLong_any hts h
  have h1 : ts.any longT = true → 0 ≤ idxOf longT ts := idxOf_yes
  have h2 : ts.any longT = false → idxOf longT ts = -1 := idxOf_no
  clear h hts
  revert hc h1 h2
  generalize ts.any longT = z
  generalize ts.length = n
  generalize idxOf longT ts = q
  intro hc h1 h2
  replace hc := Lib.hid hc
  replace h1 := Lib.hid h1
  replace h2 := Lib.hid h2
  cases z with
  | true =>
    have g : 0 ≤ q := h1.out rfl
    go_enter Try.func93, Try.ntmps93
    go_wp2_with fail
    refine hc.out.mono ?_
    rintro e w' ⟨rfl, hb⟩
    go_wp2
    go_ret
    exact ⟨rfl, hb⟩
  | false =>
    obtain rfl : q = -1 := h2.out rfl
    go_enter Try.func93, Try.ntmps93
    go_wp2_with fail
    refine hc.out.mono ?_
    rintro e w' ⟨rfl, hb⟩
    go_wp2
    go_ret
    exact ⟨rfl, hb⟩
end Go.Proofs.Ytpbbdnicafifpaa

/-! ## NetB -/
namespace Go.Proofs.Ytpbbdnicafifpaa
open Go.RowKit
set_option linter.unusedVariables false

theorem ret_int {a b : Int} (h : a = b) : Ending.returned (.int .i64 a) = .returned (.int .i64 b) := by rw [h]

set_option maxRecDepth 100000 in
set_option maxHeartbeats 1000000 in
theorem tooLong_any {w : World} {n : Nt} {ap at_ : Option Addr} {cp ct : Nat} (h : NetAt w (.slice ap n.places.length cp) (.slice at_ n.trans.length ct) n) :
    Calls Try.prog 73 #[.agg #[.slice ap n.places.length cp, .slice at_ n.trans.length ct]] w fun e w' => e = .returned (.bool (tooLongB n)) ∧ Below w.heap.size w w' := by
  obtain ⟨_, l, hts, ht⟩ := h
  have hc := conLong_any hts (TrsAt.below ht ((Below.refl _ _).alloc (Nat.le_refl _) (.cells #[.slice ap n.places.length cp, .slice at_ n.trans.length ct] 31)))
  have hq : tooLongB n = (decide (32 < n.places.length) || (decide (32 < n.trans.length) || n.trans.any longT)) := rfl
  clear hts ht
  revert hc hq
  generalize n.places.length = np
  generalize n.trans.length = nt
  generalize n.trans.any longT = z
  generalize tooLongB n = q
  intro hc hq
  replace hc := Lib.hid hc
  by_cases h1 : 32 < np
  · obtain rfl : q = true := by rw [hq]; simp [h1]
    have h1i : (32 : Int) < (np : Int) := by omega
    clear hq
    go_enter Try.func73, Try.ntmps73
    go_wp2
    go_ret
    exact ⟨rfl, (Below.refl _ _).alloc (Nat.le_refl _) _⟩
  · have h1i : ¬ (32 : Int) < (np : Int) := by omega
    have h1b : decide ((32 : Int) < (np : Int)) = false := decide_eq_false h1i
    have h1c : decide (32 < np) = false := decide_eq_false h1
    by_cases h2 : 32 < nt
    · obtain rfl : q = true := by rw [hq]; simp [h2]
      have h2i : (32 : Int) < (nt : Int) := by omega
      clear hq
      go_enter Try.func73, Try.ntmps73
      go_wp2
      go_ret
      exact ⟨rfl, (Below.refl _ _).alloc (Nat.le_refl _) _⟩
    · have h2i : ¬ (32 : Int) < (nt : Int) := by omega
      have h2b : decide ((32 : Int) < (nt : Int)) = false := decide_eq_false h2i
      have h2c : decide (32 < nt) = false := decide_eq_false h2
      obtain rfl : q = z := by rw [hq, h1c, h2c]; rfl
      clear hq
      go_enter Try.func73, Try.ntmps73
      go_wp2_with fail
      refine hc.out.mono ?_
      rintro e w' ⟨rfl, hb⟩
      go_wp2
      go_ret
      exact ⟨rfl, ((Below.refl _ _).alloc (Nat.le_refl _) _).trans (hb.mono (by simp))⟩

set_option maxRecDepth 100000 in
theorem idxS_any {w : World} {l : List ByteArray} {s : ByteArray} {a : Option Addr} {cap : Nat} (h : StrsAt w (.slice a l.length cap) l) :
    Calls Try.prog 114 #[.slice a l.length cap, .string s] w fun e w' => e = .returned (.int .i64 (idxOf (fun x => sEq x s) l)) ∧ w = w' := by
  have hmax := RowAt.max h
  obtain ⟨n, hn⟩ : ∃ n, n = l.length := ⟨_, rfl⟩
  rw [← hn] at h hmax ⊢
  have H := Lib.hid h
  have Hn := Lib.hid hn
  obtain ⟨q, hq⟩ : ∃ q, q = idxOf (fun x => sEq x s) l := ⟨_, rfl⟩
  rw [← hq]
  have Hq : Hid (q = idxFrom (fun x => sEq x s) l 0) := Lib.hid hq
  clear h hn hq
  go_enter Try.func114, Try.ntmps114
  go_wp2
  go_loop [8] (fun i => ∃ k : Nat, k ≤ n ∧ i = .int .i64 k ∧ Hid (q = idxFrom (fun x => sEq x s) l k)) (fun i => n - (intOf i).toNat)
  case atStart => exact ⟨0, by omega, rfl, Hq⟩
  case round =>
    obtain ⟨k, hk, rfl, Hk⟩ := hrel
    by_cases hlt : k < n
    · obtain ⟨x, hx⟩ := at_lt (l := l) (k := k) (by rw [← Hn.out]; exact hlt)
      have hlti : (k : Int) < (n : Int) := by omega
      obtain ⟨b, off, rfl, hbw, e0⟩ := StrsAt.at_ H.out hx
      have Hx := Lib.hid hx
      clear hx
      cases hf : sEq x s with
      | true =>
        have Hr : Hid (q = (k : Int)) := Lib.hid (by rw [Hk.out]; exact idxFrom_yes Hx.out hf)
        have hf2 : (s.toList == x.toList) = true := by rw [sEq_toList, sEq_comm]; exact hf
        clear hf
        go_wp2
        go_ret
        exact ⟨by rw [Hr.out]; rfl, rfl⟩
      | false =>
        have Hr : Hid (q = idxFrom (fun x => sEq x s) l (k + 1)) := Lib.hid (by rw [Hk.out]; exact idxFrom_no Hx.out hf)
        have hf2 : (s.toList == x.toList) = false := by rw [sEq_toList, sEq_comm]; exact hf
        clear hf
        go_wp2
        go_round
        case rel => exact ⟨k + 1, by omega, by go_num, Hr⟩
        case measure => simp [intOf]; omega
    · have hge : ¬ (k : Int) < (n : Int) := by omega
      have Hr : Hid (q = -1) := Lib.hid (by rw [Hk.out]; exact idxFrom_end _ _ _ (by rw [← Hn.out]; omega))
      go_wp2
      go_ret
      exact ⟨by rw [Hr.out]; rfl, rfl⟩

set_option maxRecDepth 100000 in
theorem conS_any {w : World} {l : List ByteArray} {s : ByteArray} {a : Option Addr} {n cap : Nat} (hn : n = l.length) (h : StrsAt w (.slice a n cap) l) :
    Calls Try.prog 97 #[.slice a n cap, .string s] w fun e w' => e = .returned (.bool (hasS l s)) ∧ w = w' := by
  subst hn
  have hc := idxS_any (s := s) h
  have h1 : hasS l s = true → 0 ≤ idxOf (fun x => sEq x s) l := fun e => idxOf_yes e
  have h2 : hasS l s = false → idxOf (fun x => sEq x s) l = -1 := fun e => idxOf_no e
  clear h
  revert hc h1 h2
  generalize hasS l s = z
  generalize l.length = n
  generalize idxOf (fun x => sEq x s) l = q
  intro hc h1 h2
  replace hc := Lib.hid hc
  replace h1 := Lib.hid h1
  replace h2 := Lib.hid h2
  cases z with
  | true =>
    have g : 0 ≤ q := h1.out rfl
    go_enter Try.func97, Try.ntmps97
    go_wp2_with fail
    refine hc.out.mono ?_
    rintro e w' ⟨rfl, rfl⟩
    go_wp2
    go_ret
    exact ⟨rfl, rfl⟩
  | false =>
    obtain rfl : q = -1 := h2.out rfl
    go_enter Try.func97, Try.ntmps97
    go_wp2_with fail
    refine hc.out.mono ?_
    rintro e w' ⟨rfl, rfl⟩
    go_wp2
    go_ret
    exact ⟨rfl, rfl⟩

theorem strs_take (l : List ByteArray) (k : Nat) : (l.flatMap strL).take (k * 1) = (l.take k).flatMap strL := by
  rw [Nat.mul_one]
  induction l generalizing k with
  | nil => simp
  | cons s l ih =>
    cases k with
    | zero => simp
    | succ k => simp [strL, ih]

theorem StrsAt.take {w : World} {l : List ByteArray} {a : Option Addr} {cap : Nat} (h : StrsAt w (.slice a l.length cap) l) (k : Nat) (hk : k ≤ l.length) : StrsAt w (.slice a k cap) (l.take k) := by
  have e : (l.take k).length = k := by rw [List.length_take]; omega
  have := RowAt.take h k hk
  rw [strs_take] at this
  unfold StrsAt
  rw [e]
  exact this

/-- a name's contract that keeps what was -/
theorem lexName_any (s : ByteArray) (w : World) (hmax : s.size ≤ 9223372036854775807) (q : Bool) (hq : nameB s.data.toList = q) :
    Calls Try.prog 96 #[.string s] w fun e w' => e = .returned (.bool q) ∧ Below w.heap.size w w' := by
  subst hq; exact name_any s w hmax

set_option maxRecDepth 100000 in
set_option maxHeartbeats 1000000 in
theorem goodNames_any {w : World} {l : List ByteArray} {a : Option Addr} {cap : Nat} (h : StrsAt w (.slice a l.length cap) l) (hs : ∀ s ∈ l, s.size ≤ 9223372036854775807) :
    Calls Try.prog 74 #[.slice a l.length cap] w fun e w' => e = .returned (.bool (!namesBad [] l)) ∧ Below w.heap.size w w' := by
  have hmax := RowAt.max h
  obtain ⟨n, hn⟩ : ∃ n, n = l.length := ⟨_, rfl⟩
  have H := Lib.hid h
  have hcap : n ≤ cap := by obtain ⟨_, a', c', e, e1, _⟩ := h; injection e with _ _ e3; omega
  have HS := Lib.hid hs
  rw [← hn] at hmax ⊢
  have Hn := Lib.hid hn
  obtain ⟨q, hq⟩ : ∃ q, q = namesBad [] l := ⟨_, rfl⟩
  rw [← hq]
  have Hq : Hid (q = namesFrom l 0) := Lib.hid (by rw [namesFrom_zero]; exact hq)
  clear h hn hq hs
  go_enter Try.func74, Try.ntmps74
  go_wp2
  go_loopw [7] (fun i wr => ∃ k : Nat, k ≤ n ∧ i = .int .i64 k ∧ Below w.heap.size w wr ∧ Hid (q = namesFrom l k)) (fun i _ => n - (intOf i).toNat)
  case atStart => exact ⟨0, by omega, rfl, Below.refl _ _, Hq⟩
  case round =>
    obtain ⟨k, hk, rfl, hb, Hk⟩ := hrel
    by_cases hlt : k < n
    · obtain ⟨x, hx⟩ := at_lt (l := l) (k := k) (by rw [← Hn.out]; exact hlt)
      have hlti : (k : Int) < (n : Int) := by omega
      have Hl := Lib.hid (StrsAt.below H.out hb)
      obtain ⟨b, off, rfl, hbw, e0⟩ := StrsAt.at_ Hl.out hx
      have Hst := Lib.hid (namesFrom_step hx)
      have hsz := HS.out x (List.mem_of_getElem? hx)
      have Hb := Lib.hid hb
      clear hx hb
      cases hf : nameB x.data.toList with
      | false =>
        have Hr : Hid (q = true) := Lib.hid (by rw [Hk.out, Hst.out, if_pos hf])
        have HF := Lib.hid hf
        clear hf
        go_wp2_with (go_at_call 96; refine (lexName_any _ _ hsz false HF.out).mono ?_; rintro e w' ⟨rfl, hb'⟩; have HB := Lib.hid hb'; clear hb')
        go_ret
        exact ⟨by rw [Hr.out]; rfl, Hb.out.trans (HB.out.mono Hb.out.size)⟩
      | true =>
        have Hst2 : Hid (namesFrom l k = if hasS (l.take k) x = true then true else namesFrom l (k + 1)) := Lib.hid (by rw [Hst.out, if_neg (by rw [hf]; simp)])
        have HF := Lib.hid hf
        clear hf
        go_wp2_with fail
        refine (lexName_any _ _ hsz true HF.out).mono ?_
        rintro e w' ⟨rfl, hb'⟩
        have Htk := Lib.hid (StrsAt.take (StrsAt.below Hl.out hb') k (by rw [← Hn.out]; exact hk))
        have HB := Lib.hid hb'
        clear hb'
        have hkc : (k : Int) ≤ (cap : Int) := by omega
        cases hg : hasS (l.take k) x with
        | true =>
          have Hr : Hid (q = true) := Lib.hid (by rw [Hk.out, Hst2.out, if_pos hg])
          have HG := Lib.hid hg
          clear hg
          go_wp2_with (go_at_call 97; refine (conS_any (l := l.take k) (by rw [List.length_take, ← Hn.out]; omega) Htk.out).mono ?_; rintro e w' ⟨rfl, rfl⟩; rw [HG.out])
          go_ret
          exact ⟨by rw [Hr.out]; rfl, Hb.out.trans (HB.out.mono Hb.out.size)⟩
        | false =>
          have Hr : Hid (q = namesFrom l (k + 1)) := Lib.hid (by rw [Hk.out, Hst2.out, if_neg (by rw [hg]; simp)])
          have HG := Lib.hid hg
          clear hg
          go_wp2_with (go_at_call 97; refine (conS_any (l := l.take k) (by rw [List.length_take, ← Hn.out]; omega) Htk.out).mono ?_; rintro e w' ⟨rfl, rfl⟩; rw [HG.out])
          go_roundw
          case rel => exact ⟨k + 1, by omega, by go_num, Hb.out.trans (HB.out.mono Hb.out.size), Hr⟩
          case measure => simp [intOf]; omega
    · have hge : ¬ (k : Int) < (n : Int) := by omega
      have Hr : Hid (q = false) := Lib.hid (by rw [Hk.out]; exact namesFrom_end _ _ (by rw [← Hn.out]; omega))
      have Hb := Lib.hid hb
      clear hb
      go_wp2
      go_ret
      exact ⟨by rw [Hr.out]; rfl, Hb.out⟩
end Go.Proofs.Ytpbbdnicafifpaa

/-! ## NetC -/
namespace Go.Proofs.Ytpbbdnicafifpaa
open Go.RowKit
set_option linter.unusedVariables false

theorem Try.info_str : (Try.prog.info? 9).map (fun i => (i.zero, i.size, i.bytes)) = some (some (.string { data := #[] }), 1, 16) := by kernel_rfl

theorem cell_new1 (w : World) (u : Value) (t : TypeId) : ∀ j x, [u][j]? = some x → (w.alloc (.cells #[u] t)).cell? ((⟨w.heap.size, 0, none⟩ : Addr).add j) = some x := by
  intro j x hj
  have hb := heap_alloc_new w (.cells #[u] t)
  have e : (⟨w.heap.size, 0, none⟩ : Addr).add j = ⟨w.heap.size, j, none⟩ := by simp [Addr.add]; omega
  rw [e, cell_of_row _ _ j _ _ (0, 0) hb, ← hj]
  simp

/-- a row of texts of the call's own -/
abbrev OwnS (B : Nat) (w : World) (v : Value) (l : List ByteArray) : Prop := w.ownsRow B 9 1 v l.length (l.flatMap strL)

theorem strs_snoc (l : List ByteArray) (s : ByteArray) : (l ++ [s]).flatMap strL = l.flatMap strL ++ [.string s] := by simp [strL]

/-- 'append(l, s)' -/
theorem run_push_str {B : Nat} {v : Value} {l : List ByteArray} (ty : TypeId) (s : ByteArray) {w : World} (h : OwnS B w v l) (hl : l.length ≤ 1000000000000) (hB : B ≤ w.heap.size) :
    ∃ v' w', (Builtin.append_ #[119, 119] ty #[v, .slice (some ⟨w.heap.size, 0, none⟩) 1 1]).run Try.prog (w.alloc (.cells #[.string s] 9)) = .ok v' w' ∧ OwnS B w' v' (l ++ [s]) ∧
      Kept (fun k => v.ownBlock = some k) w w' ∧ (v'.ownBlock = v.ownBlock ∨ v'.ownBlock = some (w.heap.size + 1)) := by
  obtain ⟨i0, hi0, hz0, hz1, hz2⟩ := info_parts Try.info_str
  obtain ⟨v', w', hr, h2, h3, _, h5⟩ := run_append_own_at (P := Try.prog) (w.alloc (.cells #[.string s] 9)) B 119 ty 9 i0 _ 1 16 Try.underlying119 hi0 hz0 hz1 hz2 rfl (by omega) v l.length (l.flatMap strL) (h.alloc _)
    ⟨w.heap.size, 0, none⟩ 1 1 [.string s] rfl (cell_new1 w _ _) (by simp [Value.oneCell']) (by unfold maxLen; omega) (by omega) (by simp; omega)
  exact ⟨v', w', hr, by rw [OwnS, strs_snoc, List.length_append]; exact h2, ((Kept.refl _ w).alloc _).grown h3 (fun _ h => h), by simpa using h5⟩


theorem own_mono {B B' e size n : Nat} {w : World} {v : Value} {xs : List Value} (h : w.ownsRow B' e size v n xs) (hB : B ≤ B') : w.ownsRow B e size v n xs := by
  refine ⟨h.1, ?_⟩
  rcases h.2 with h0 | ⟨r, cap, cur, hv, hr, rest⟩
  · exact .inl h0
  · exact .inr ⟨r, cap, cur, hv, Nat.le_trans hB hr, rest⟩

theorem Kept.cellOf {S : Nat → Prop} {w w' : World} (h : Kept S w w') {b o : Nat} (hb : b < w.heap.size) (hs : ¬ S b) : w'.cell? ⟨b, o, none⟩ = w.cell? ⟨b, o, none⟩ :=
  World.cell?_of_block (w := w) (a := ⟨b, o, none⟩) (h.block b hb hs)

/-- what Names has at hand: the names so far, beside the box of the net -/
structure InNames (w wr : World) (v : Value) (l : List ByteArray) (x y : Value) : Prop where
  own : OwnS (w.heap.size + 1) wr v l
  below : Below w.heap.size w wr
  size : w.heap.size < wr.heap.size
  c0 : wr.cell? ⟨w.heap.size, 0, none⟩ = some x
  c1 : wr.cell? ⟨w.heap.size, 1, none⟩ = some y

theorem InNames.push {w wr w2 : World} {v v2 x y : Value} {l : List ByteArray} {s : ByteArray} {o : Obj} (h : InNames w wr v l x y) (h1 : OwnS (w.heap.size + 1) w2 v2 (l ++ [s]))
    (hk : Kept (fun k => v.ownBlock = some k) (wr.alloc o) w2) : InNames w w2 v2 (l ++ [s]) x y := by
  have hk2 : Kept (fun k => w.heap.size + 1 ≤ k) wr w2 := ((Kept.refl _ wr).alloc o).trans (hk.mono (fun k hk1 hk2 => (h.own.lt k hk2).1))
  refine ⟨h1, h.below.trans (hk2.below (fun k hk => by omega) (by have := h.size; omega)), Nat.lt_of_lt_of_le h.size hk2.size, ?_, ?_⟩
  · exact hk2.cell h.size (by omega) h.c0
  · exact hk2.cell h.size (by omega) h.c1

set_option maxRecDepth 100000 in
set_option maxHeartbeats 2000000 in
theorem names_any {w : World} {n : Nt} {ap at_ : Option Addr} {cp ct : Nat} (h : NetAt w (.slice ap n.places.length cp) (.slice at_ n.trans.length ct) n) (h1 : n.places.length ≤ 1000000) (h2 : n.trans.length ≤ 1000000) :
    Calls Try.prog 75 #[.agg #[.slice ap n.places.length cp, .slice at_ n.trans.length ct]] w fun e w' => ∃ v, e = .returned v ∧ OwnS w.heap.size w' v n.names ∧ Below w.heap.size w w' := by
  obtain ⟨hp, l, hts, ht⟩ := h
  obtain ⟨np, hnp⟩ : ∃ k, k = n.places.length := ⟨_, rfl⟩
  obtain ⟨nt, hnt⟩ : ∃ k, k = n.trans.length := ⟨_, rfl⟩
  rw [← hnp] at hp h1 ⊢
  rw [← hnt] at ht h2 ⊢
  have Hp := Lib.hid hp
  have Hts := Lib.hid hts
  have Ht := Lib.hid ht
  have Hnp := Lib.hid hnp
  have Hnt := Lib.hid hnt
  clear hp hts ht hnp hnt
  go_enter Try.func75, Try.ntmps75
  go_wp2
  go_loopw [3, 11] (fun v i wr => ∃ k : Nat, k ≤ np ∧ i = .int .i64 k ∧ InNames w wr v ((n.places.map (·.name)).take k) (.slice ap np cp) (.slice at_ nt ct)) (fun _ i _ => np - (intOf i).toNat)
  case atStart => exact ⟨0, by omega, rfl, World.ownsRow_nil _ _ _ _, (Below.refl _ _).alloc (Nat.le_refl _) _, by simp, by go_simp, by go_simp⟩
  case round =>
    obtain ⟨k, hk, rfl, hin⟩ := hrel
    have hsz := hin.size
    have hc1 := hin.c1
    by_cases hlt : k < np
    · obtain ⟨x, hx⟩ := at_lt (l := n.places) (k := k) (by rw [← Hnp.out]; exact hlt)
      have hlti : (k : Int) < (np : Int) := by omega
      obtain ⟨b, off, rfl, hbw, e0, e1⟩ := PlsAt.at_ (PlsAt.below Hp.out hin.below) hx
      obtain ⟨s, hs⟩ : ∃ s, s = x.name := ⟨_, rfl⟩
      obtain ⟨z, hz⟩ : ∃ s, s = x.tok := ⟨_, rfl⟩
      rw [← hs] at e0; rw [← hz] at e1
      have Hx : Hid ((n.places.map (·.name)).take (k + 1) = (n.places.map (·.name)).take k ++ [s]) := Lib.hid (take_at (by rw [List.getElem?_map, hx, hs]; rfl))
      obtain ⟨v2, w2, hr, ho2, hk2, hv2⟩ := run_push_str 119 s (hin.own.alloc (.cells #[.string s, .int .i64 z] 57)) (by rw [List.length_take]; omega) (by simp; omega)
      have Hin := Lib.hid (hin.push ho2 hk2)
      rw [show (wr.alloc (.cells #[.string s, .int .i64 z] 57)).heap.size = wr.heap.size + 1 by simp] at hr
      clear hs hz hx ho2 hk2 hv2 hin
      go_wp2_with (at_builtin; refine wpList_append_eq rfl (.tmp 15) (.tmp 18) 119 rfl rfl rfl hr ?_)
      go_roundw
      case rel => exact ⟨k + 1, by omega, by go_num, by rw [Hx.out]; exact Hin.out⟩
      case measure => simp [intOf]; omega
    · have hge : ¬ (k : Int) < (np : Int) := by omega
      have Hin : Hid (InNames w wr _ (n.places.map (·.name) ++ (n.trans.map (·.name)).take 0) _ _) := Lib.hid (by
        have e : (n.places.map (·.name)).take k = n.places.map (·.name) ++ (n.trans.map (·.name)).take 0 := by
          rw [List.take_of_length_le (by rw [List.length_map, ← Hnp.out]; omega)]; simp
        rw [← e]; exact hin)
      clear hin
      go_wp2
      go_loopw [3, 24] (fun v i wr => ∃ k : Nat, k ≤ nt ∧ i = .int .i64 k ∧ InNames w wr v (n.places.map (·.name) ++ (n.trans.map (·.name)).take k) (.slice ap np cp) (.slice at_ nt ct)) (fun _ i _ => nt - (intOf i).toNat)
      case atStart => exact ⟨0, by omega, rfl, Hin.out⟩
      case round =>
        obtain ⟨k, hk, rfl, hin⟩ := hrel
        by_cases hlt : k < nt
        · obtain ⟨t, ht⟩ := at_lt (l := n.trans) (k := k) (by rw [← Hnt.out]; exact hlt)
          have hlti : (k : Int) < (nt : Int) := by omega
          obtain ⟨b, off, a1, c1, a2, c2, a3, c3, rfl, hbw, e0, e1, e2, e3, e4, e5, _, _, _⟩ := (Ht.out.below hin.below).at_ (i := k) (t := t) (by rw [Hts.out]; exact ht)
          have Hx : Hid ((n.trans.map (·.name)).take (k + 1) = (n.trans.map (·.name)).take k ++ [t.name]) := Lib.hid (take_at (by rw [List.getElem?_map, ht]; rfl))
          obtain ⟨v2, w2, hr, ho2, hk2, hv2⟩ := run_push_str 119 t.name (hin.own.alloc (.cells #[.string t.name, .int .i64 t.delay, .int .i64 t.prio, .slice a1 t.inn.length c1, .slice a2 t.nt.length c2, .slice a3 t.out.length c3] 79)) (by have := Hnp.out; rw [List.length_append, List.length_take, List.length_map]; omega) (by simp; have := hin.size; omega)
          have Hin := Lib.hid (hin.push ho2 hk2)
          rw [show ∀ (W : World) (o : Obj), (W.alloc o).heap.size = W.heap.size + 1 from fun W o => by simp] at hr
          clear ht ho2 hk2 hv2 hin
          go_wp2_with (at_builtin; refine wpList_append_eq rfl (.tmp 28) (.tmp 31) 119 rfl rfl rfl hr ?_)
          go_roundw
          case rel => exact ⟨k + 1, by omega, by go_num, by rw [Hx.out, ← List.append_assoc]; exact Hin.out⟩
          case measure => simp [intOf]; omega
        · have hge : ¬ (k : Int) < (nt : Int) := by omega
          have Hin2 : Hid (InNames w _ _ n.names _ _) := Lib.hid (by
            have e : n.names = n.places.map (·.name) ++ (n.trans.map (·.name)).take k := by
              rw [List.take_of_length_le (by rw [List.length_map, ← Hnt.out]; omega)]; rfl
            rw [e]; exact hin)
          clear hin
          go_wp2
          go_ret
          exact ⟨_, rfl, own_mono Hin2.out.own (by omega), Hin2.out.below⟩
end Go.Proofs.Ytpbbdnicafifpaa

/-! ## NetD -/
namespace Go.Proofs.Ytpbbdnicafifpaa
open Go.RowKit
set_option linter.unusedVariables false

theorem arcIs_any (x y z : Int) (g : Nat) (w : World) (hg : g < w.heap.size) (hc : w.cell? ⟨g, 0, none⟩ = some (.int .i64 z)) :
    Calls Try.prog 100 #[.agg #[.int .i64 x, .int .i64 y], .pointer (some ⟨g, 0, none⟩)] w fun e w' => e = .returned (.bool (x == z)) ∧ Below w.heap.size w w' := by
  go_enter Try.func100, Try.ntmps100
  go_wp2
  go_ret
  exact ⟨rfl, (Below.refl _ _).alloc (Nat.le_refl _) _⟩

set_option maxRecDepth 100000 in
set_option maxHeartbeats 1000000 in
theorem idxArc_any {w : World} {l : List (Int × Int)} {a : Option Addr} {n cap g : Nat} {z : Int} (hn : n = l.length) (h : ArcsAt w (.slice a n cap) l) (hg : g < w.heap.size) (hc : w.cell? ⟨g, 0, none⟩ = some (.int .i64 z)) :
    Calls Try.prog 115 #[.slice a n cap, .func (.func 100) #[] #[.pointer (some ⟨g, 0, none⟩)]] w fun e w' => e = .returned (.int .i64 (idxOf (fun x => x.1 == z) l)) ∧ Below w.heap.size w w' := by
  have hmax : n ≤ 9223372036854775807 := by have := RowAt.max h; omega
  have H := Lib.hid h
  have Hn := Lib.hid hn
  obtain ⟨q, hq⟩ : ∃ q, q = idxOf (fun x : Int × Int => x.1 == z) l := ⟨_, rfl⟩
  rw [← hq]
  have Hq : Hid (q = idxFrom (fun x : Int × Int => x.1 == z) l 0) := Lib.hid hq
  have Hc := Lib.hid hc
  clear h hn hq hc
  go_enter Try.func115, Try.ntmps115
  go_wp2
  go_loopw [8] (fun i wr => ∃ k : Nat, k ≤ n ∧ i = .int .i64 k ∧ Below w.heap.size w wr ∧ Hid (q = idxFrom (fun x : Int × Int => x.1 == z) l k)) (fun i _ => n - (intOf i).toNat)
  case atStart => exact ⟨0, by omega, rfl, Below.refl _ _, Hq⟩
  case round =>
    obtain ⟨k, hk, rfl, hb, Hk⟩ := hrel
    by_cases hlt : k < n
    · obtain ⟨⟨x, y⟩, ht⟩ := at_lt (l := l) (k := k) (by rw [← Hn.out]; exact hlt)
      have hlti : (k : Int) < (n : Int) := by omega
      obtain ⟨b, off, rfl, hbw, e0, e1⟩ := (H.out.below hb).at_ ht
      have hgc : wr.cell? ⟨g, 0, none⟩ = some (.int .i64 z) := (below_cells hb g 0 hg).trans Hc.out
      have hgw : g < wr.heap.size := Nat.lt_of_lt_of_le hg hb.size
      have Ht := Lib.hid ht
      have Hb := Lib.hid hb
      clear ht hb
      cases hf : (x == z) with
      | true =>
        have Hr : Hid (q = (k : Int)) := Lib.hid (by rw [Hk.out]; exact idxFrom_yes Ht.out hf)
        have HF := Lib.hid hf
        clear hf
        go_wp2_with (go_at_call 100; refine (arcIs_any _ _ _ _ _ hgw hgc).mono ?_; rintro e w' ⟨rfl, hb'⟩; have HB := Lib.hid hb'; clear hb'; rw [HF.out])
        go_ret
        exact ⟨by rw [Hr.out]; rfl, Hb.out.trans (HB.out.mono Hb.out.size)⟩
      | false =>
        have Hr : Hid (q = idxFrom (fun x : Int × Int => x.1 == z) l (k + 1)) := Lib.hid (by rw [Hk.out]; exact idxFrom_no Ht.out hf)
        have HF := Lib.hid hf
        clear hf
        go_wp2_with (go_at_call 100; refine (arcIs_any _ _ _ _ _ hgw hgc).mono ?_; rintro e w' ⟨rfl, hb'⟩; have HB := Lib.hid hb'; clear hb'; rw [HF.out])
        go_roundw
        case rel => exact ⟨k + 1, by omega, by go_num, Hb.out.trans (HB.out.mono Hb.out.size), Hr⟩
        case measure => simp [intOf]; omega
    · have hge : ¬ (k : Int) < (n : Int) := by omega
      have Hr : Hid (q = -1) := Lib.hid (by rw [Hk.out]; exact idxFrom_end _ _ _ (by rw [← Hn.out]; omega))
      have Hb := Lib.hid hb
      clear hb
      go_wp2
      go_ret
      exact ⟨by rw [Hr.out]; rfl, Hb.out⟩

set_option maxRecDepth 100000 in
theorem conArc_any {w : World} {l : List (Int × Int)} {a : Option Addr} {n cap g : Nat} {z : Int} (hn : n = l.length) (h : ArcsAt w (.slice a n cap) l) (hg : g < w.heap.size) (hgc : w.cell? ⟨g, 0, none⟩ = some (.int .i64 z)) :
    Calls Try.prog 99 #[.slice a n cap, .func (.func 100) #[] #[.pointer (some ⟨g, 0, none⟩)]] w fun e w' => e = .returned (.bool (hasP l z)) ∧ Below w.heap.size w w' := by
  have hc := idxArc_any hn h hg hgc
  have h1 : hasP l z = true → 0 ≤ idxOf (fun x : Int × Int => x.1 == z) l := fun e => idxOf_yes e
  have h2 : hasP l z = false → idxOf (fun x : Int × Int => x.1 == z) l = -1 := fun e => idxOf_no e
  clear h hn hgc
  revert hc h1 h2
  generalize hasP l z = p
  generalize idxOf (fun x : Int × Int => x.1 == z) l = q
  intro hc h1 h2
  replace hc := Lib.hid hc
  replace h1 := Lib.hid h1
  replace h2 := Lib.hid h2
  cases p with
  | true =>
    have g : 0 ≤ q := h1.out rfl
    go_enter Try.func99, Try.ntmps99
    go_wp2_with fail
    refine hc.out.mono ?_
    rintro e w' ⟨rfl, hb⟩
    go_wp2
    go_ret
    exact ⟨rfl, hb⟩
  | false =>
    obtain rfl : q = -1 := h2.out rfl
    go_enter Try.func99, Try.ntmps99
    go_wp2_with fail
    refine hc.out.mono ?_
    rintro e w' ⟨rfl, hb⟩
    go_wp2
    go_ret
    exact ⟨rfl, hb⟩

theorem arcs_take (l : List (Int × Int)) (k : Nat) : (l.flatMap arcL).take (k * 2) = (l.take k).flatMap arcL := by
  induction l generalizing k with
  | nil => simp
  | cons s l ih =>
    cases k with
    | zero => simp
    | succ k => rw [Nat.succ_mul]; simp [arcL, ih]

theorem ArcsAt.take {w : World} {l : List (Int × Int)} {a : Option Addr} {cap : Nat} (h : ArcsAt w (.slice a l.length cap) l) (k : Nat) (hk : k ≤ l.length) : ArcsAt w (.slice a k cap) (l.take k) := by
  have e : (l.take k).length = k := by rw [List.length_take]; omega
  have := RowAt.take h k hk
  rw [arcs_take] at this
  unfold ArcsAt
  rw [e]
  exact this

set_option maxRecDepth 100000 in
theorem occurs_any {w : World} {l : List (Int × Int)} {a : Option Addr} {n cap g k : Nat} {z : Int} (hn : n = l.length) (h : ArcsAt w (.slice a n cap) l) (hk : k ≤ n) (hg : g < w.heap.size) (hgc : w.cell? ⟨g, 0, none⟩ = some (.slice a n cap)) :
    Calls Try.prog 98 #[.int .i64 z, .int .i64 k, .pointer (some ⟨g, 0, none⟩)] w fun e w' => e = .returned (.bool (hasP (l.take k) z)) ∧ Below w.heap.size w w' := by
  have hb0 : Below w.heap.size w (w.alloc (.cells #[.int .i64 z] 3)) := (Below.refl _ _).alloc (Nat.le_refl _) _
  have hcap : n ≤ cap := by obtain ⟨_, a', c', e, e1, _⟩ := h; injection e with _ _ e3; omega
  have hc := conArc_any (w := w.alloc (.cells #[.int .i64 z] 3)) (l := l.take k) (n := k) (cap := cap) (a := a) (g := w.heap.size) (z := z) (by rw [List.length_take]; omega)
    (ArcsAt.take (hn ▸ ArcsAt.below h hb0) k (by omega)) (by simp) (by go_simp)
  have hkc : (k : Int) ≤ (cap : Int) := by omega
  have Hc := Lib.hid hc
  clear h hc hn hb0
  go_enter Try.func98, Try.ntmps98
  go_wp2_with fail
  refine Hc.out.mono ?_
  rintro e w' ⟨rfl, hb⟩
  go_wp2
  go_ret
  exact ⟨rfl, ((Below.refl _ _).alloc (Nat.le_refl _) _).trans (hb.mono (by simp))⟩

/-- lists of arcs, whose slices lie one behind the other -/
def LsAt (w : World) (r : Nat) (ls : List (List (Int × Int))) : Prop :=
  r < w.heap.size ∧ ∀ k l, ls[k]? = some l → ∃ a c, w.cell? ⟨r, k, none⟩ = some (.slice a l.length c) ∧ ArcsAt w (.slice a l.length c) l

theorem LsAt.below {w w' : World} {r : Nat} {ls : List (List (Int × Int))} (h : LsAt w r ls) (hb : Below w.heap.size w w') : LsAt w' r ls :=
  ⟨Nat.lt_of_lt_of_le h.1 hb.size, fun k l hk => by
    obtain ⟨a, c, h1, h2⟩ := h.2 k l hk
    exact ⟨a, c, (below_cells hb r k h.1).trans h1, h2.below hb⟩⟩

theorem numB_yes {lo n : Int} (h : numB lo n = true) : lo ≤ n ∧ n ≤ 1000000 := by simpa [numB] using h
theorem inP_yes {P x : Int} (h : inP P x = true) : 0 ≤ x ∧ x < P := by simpa [inP] using h

set_option maxRecDepth 100000 in
set_option maxHeartbeats 4000000 in
theorem checkArcs_any {w : World} {r m cap : Nat} {ls : List (List (Int × Int))} {P : Int} (hm : m = ls.length) (hmm : m ≤ 1000000) (h : LsAt w r ls) :
    Calls Try.prog 77 #[.int .i64 P, .slice (some ⟨r, 0, none⟩) m cap] w fun e w' => e = .returned (.int .i64 (listsErr P ls)) ∧ Below w.heap.size w w' := by
  have H := Lib.hid h
  have Hm := Lib.hid hm
  obtain ⟨q, hq⟩ : ∃ q, q = listsErr P ls := ⟨_, rfl⟩
  rw [← hq]
  have Hq : Hid (q = listsFrom P ls 0) := Lib.hid (by rw [listsFrom_zero]; exact hq)
  clear h hm hq
  go_enter Try.func77, Try.ntmps77
  go_wp2
  go_loopw [12] (fun i wr => ∃ k : Nat, k ≤ m ∧ i = .int .i64 k ∧ Below w.heap.size w wr ∧ Hid (q = listsFrom P ls k)) (fun i _ => m - (intOf i).toNat)
  case atStart => exact ⟨0, by omega, rfl, Below.refl _ _, Hq⟩
  case round =>
    rename World => v0
    obtain ⟨k, hk, rfl, hb, Hk⟩ := hrel
    by_cases hlt : k < m
    · obtain ⟨l, hl⟩ := at_lt (l := ls) (k := k) (by rw [← Hm.out]; exact hlt)
      have hlti : (k : Int) < (m : Int) := by omega
      obtain ⟨a, c, e0, hA⟩ := (H.out.below hb).2 k l hl
      have hrw : r < v0.heap.size := (H.out.below hb).1
      have Hstep := Lib.hid (listsFrom_step (P := P) hl)
      have Hb := Lib.hid hb
      obtain ⟨n, hn⟩ : ∃ n, n = l.length := ⟨_, rfl⟩
      have hmax : n ≤ 9223372036854775807 := by have := RowAt.max hA; omega
      rw [← hn] at e0 hA
      have Hn := Lib.hid hn
      have HA := Lib.hid hA
      obtain ⟨e, he⟩ : ∃ e, e = arcsErr P [] l := ⟨_, rfl⟩
      rw [← he] at Hstep
      have He : Hid (e = arcsFrom P l 0) := Lib.hid (by rw [arcsFrom_zero]; exact he)
      clear hl hb hn hA he
      go_wp2
      go_loopw [19] (fun i wr => ∃ j : Nat, j ≤ n ∧ i = .int .i64 j ∧ Below (v0.heap.size + 1) (v0.alloc (.cells #[.slice a n c] 77)) wr ∧ Hid (e = arcsFrom P l j)) (fun i _ => n - (intOf i).toNat)
      case atStart => exact ⟨0, by omega, rfl, Below.refl _ _, He⟩
      case round =>
        obtain ⟨j, hj, rfl, hbj, Hj⟩ := hrel
        have hb0 : Below v0.heap.size v0 wr := ((Below.refl _ v0).alloc (Nat.le_refl _) _).trans (hbj.mono (by omega))
        have hbox : wr.cell? ⟨v0.heap.size, 0, none⟩ = some (.slice a n c) := (hbj.cell (p := ⟨v0.heap.size, 0, none⟩) (by simp)).trans (by go_simp)
        have hbs : v0.heap.size < wr.heap.size := by have := hbj.size; simp at this; omega
        have Hw : Hid (Below w.heap.size w wr) := Lib.hid (Hb.out.trans (hb0.mono Hb.out.size))
        have Hbj := Lib.hid hbj
        by_cases hjl : j < n
        · obtain ⟨⟨x, y⟩, hx⟩ := at_lt (l := l) (k := j) (by rw [← Hn.out]; exact hjl)
          have hjli : (j : Int) < (n : Int) := by omega
          have HA2 := Lib.hid (ArcsAt.below HA.out hb0)
          obtain ⟨b, off, rfl, hbw, f0, f1⟩ := ArcsAt.at_ HA2.out hx
          have Hs := Lib.hid (arcsFrom_step (P := P) hx)
          clear hx hbj hb0
          cases g1 : numB 1 y with
          | false =>
            have Hr : Hid (q = 3) := Lib.hid (by
              have e3 : e = 3 := by rw [Hj.out, Hs.out, if_pos g1]
              rw [Hk.out, Hstep.out, e3]; rfl)
            have G1 := Lib.hid g1
            clear g1
            go_wp2_with (go_at_call 76; refine (bounds_any _ _ _).mono ?_; rintro e w' ⟨rfl, rfl⟩; rw [G1.out])
            go_ret
            exact ⟨by rw [Hr.out]; rfl, Hw.out.alloc (by have := Hw.out.size; omega) _⟩
          | true =>
            have Hs2 : Hid (arcsFrom P l j = if inP P x = false then 2 else if hasP (l.take j) x = true then 1 else arcsFrom P l (j + 1)) := Lib.hid (by rw [Hs.out, if_neg (by rw [g1]; simp)])
            have G1 := Lib.hid g1
            clear g1
            by_cases hx0 : x < 0
            · have Hr : Hid (q = 2) := Lib.hid (by
                have e3 : e = 2 := by rw [Hj.out, Hs2.out, if_pos (by simp [inP]; omega)]
                rw [Hk.out, Hstep.out, e3]; rfl)
              go_wp2_with (go_at_call 76; refine (bounds_any _ _ _).mono ?_; rintro e w' ⟨rfl, rfl⟩; rw [G1.out])
              go_ret
              exact ⟨by rw [Hr.out]; rfl, Hw.out.alloc (by have := Hw.out.size; omega) _⟩
            · have hx0b : decide (x < 0) = false := decide_eq_false hx0
              by_cases hxP : P ≤ x
              · have Hr : Hid (q = 2) := Lib.hid (by
                  have e3 : e = 2 := by rw [Hj.out, Hs2.out, if_pos (by simp [inP]; omega)]
                  rw [Hk.out, Hstep.out, e3]; rfl)
                go_wp2_with (go_at_call 76; refine (bounds_any _ _ _).mono ?_; rintro e w' ⟨rfl, rfl⟩; rw [G1.out])
                go_ret
                exact ⟨by rw [Hr.out]; rfl, Hw.out.alloc (by have := Hw.out.size; omega) _⟩
              · have hxPb : decide (P ≤ x) = false := decide_eq_false hxP
                have Hs3 : Hid (arcsFrom P l j = if hasP (l.take j) x = true then 1 else arcsFrom P l (j + 1)) := Lib.hid (by rw [Hs2.out, if_neg (by simp [inP]; omega)])
                have Hoc := Lib.hid (occurs_any (w := wr.alloc (.cells #[.int .i64 x, .int .i64 y] 76)) (g := v0.heap.size) (k := j) (z := x) Hn.out (ArcsAt.below HA2.out ((Below.refl _ _).alloc (Nat.le_refl _) _)) hj (by simp; omega) (by go_simp))
                cases g3 : hasP (l.take j) x with
                | true =>
                  have Hr : Hid (q = 1) := Lib.hid (by
                    have e3 : e = 1 := by rw [Hj.out, Hs3.out, if_pos g3]
                    rw [Hk.out, Hstep.out, e3]; rfl)
                  have G3 := Lib.hid g3
                  clear g3
                  go_wp2_with (first | (go_at_call 76; refine (bounds_any _ _ _).mono ?_; rintro e w' ⟨rfl, rfl⟩; rw [G1.out]) | (go_at_call 98; refine Hoc.out.mono ?_; rintro e w' ⟨rfl, hb'⟩; have HB := Lib.hid hb'; clear hb'; rw [G3.out]))
                  go_ret
                  exact ⟨by rw [Hr.out]; rfl, (Hw.out.alloc (by have := Hw.out.size; omega) _).trans (HB.out.mono (by have := Hw.out.size; simp; omega))⟩
                | false =>
                  have Hr : Hid (e = arcsFrom P l (j + 1)) := Lib.hid (by rw [Hj.out, Hs3.out, if_neg (by rw [g3]; simp)])
                  have G3 := Lib.hid g3
                  clear g3
                  go_wp2_with (first | (go_at_call 76; refine (bounds_any _ _ _).mono ?_; rintro e w' ⟨rfl, rfl⟩; rw [G1.out]) | (go_at_call 98; refine Hoc.out.mono ?_; rintro e w' ⟨rfl, hb'⟩; have HB := Lib.hid hb'; clear hb'; rw [G3.out]))
                  go_roundw
                  case rel => exact ⟨j + 1, by omega, by go_num, (Hbj.out.alloc (by have := Hbj.out.size; simp at this; omega) _).trans (HB.out.mono (by have := Hbj.out.size; simp at this ⊢; omega)), Hr⟩
                  case measure => simp [intOf]; omega
        · have hge : ¬ (j : Int) < (n : Int) := by omega
          have Hr : Hid (q = listsFrom P ls (k + 1)) := Lib.hid (by
            have e0 : e = 0 := by rw [Hj.out]; exact arcsFrom_end _ _ (by rw [← Hn.out]; omega)
            rw [Hk.out, Hstep.out, if_pos e0])
          clear hbj hb0
          go_wp2
          go_roundw
          case rel => exact ⟨k + 1, by omega, by go_num, Hw.out, Hr⟩
          case measure => simp [intOf]; omega
    · have hge : ¬ (k : Int) < (m : Int) := by omega
      have Hr : Hid (q = 0) := Lib.hid (by rw [Hk.out]; exact listsFrom_end _ _ (by rw [← Hm.out]; omega))
      have Hb := Lib.hid hb
      clear hb
      go_wp2
      go_ret
      exact ⟨by rw [Hr.out]; rfl, Hb.out⟩
end Go.Proofs.Ytpbbdnicafifpaa

/-! ## NetE -/
namespace Go.Proofs.Ytpbbdnicafifpaa
open Go.RowKit
set_option linter.unusedVariables false

/-- a net's box, and what comes behind it -/
structure InBox (w wr : World) (x y : Value) : Prop where
  below : Below (w.heap.size + 1) (w.alloc (.cells #[x, y] 31)) wr

theorem InBox.start (w : World) (x y : Value) : InBox w (w.alloc (.cells #[x, y] 31)) x y := ⟨Below.refl _ _⟩
theorem InBox.old {w wr : World} {x y : Value} (h : InBox w wr x y) : Below w.heap.size w wr := ((Below.refl _ w).alloc (Nat.le_refl _) _).trans (h.below.mono (by omega))
theorem InBox.size {w wr : World} {x y : Value} (h : InBox w wr x y) : w.heap.size < wr.heap.size := by have := h.below.size; simp at this; omega
theorem InBox.go {w wr w' : World} {x y : Value} (h : InBox w wr x y) (hb : Below wr.heap.size wr w') : InBox w w' x y := ⟨h.below.trans (hb.mono (by have := h.below.size; simp at this; omega))⟩
theorem InBox.alloc {w wr : World} {x y : Value} (h : InBox w wr x y) (o : Obj) : InBox w (wr.alloc o) x y := h.go ((Below.refl _ _).alloc (Nat.le_refl _) o)
theorem InBox.c0 {w wr : World} {x y : Value} (h : InBox w wr x y) : wr.cell? ⟨w.heap.size, 0, none⟩ = some x := (h.below.cell (p := ⟨w.heap.size, 0, none⟩) (by simp)).trans (by go_simp)
theorem InBox.c1 {w wr : World} {x y : Value} (h : InBox w wr x y) : wr.cell? ⟨w.heap.size, 1, none⟩ = some y := (h.below.cell (p := ⟨w.heap.size, 1, none⟩) (by simp)).trans (by go_simp)

set_option maxRecDepth 100000 in
set_option maxHeartbeats 4000000 in
theorem check_any {w : World} {n : Nt} {ap at_ : Option Addr} {cp ct : Nat} (h : NetAt w (.slice ap n.places.length cp) (.slice at_ n.trans.length ct) n) (hs : ∀ s ∈ n.names, s.size ≤ 9223372036854775807) :
    Calls Try.prog 52 #[.agg #[.slice ap n.places.length cp, .slice at_ n.trans.length ct]] w fun e w' => e = .returned (.int .i64 (checkN n)) ∧ Below w.heap.size w w' := by
  obtain ⟨q, hq⟩ : ∃ q, q = checkN n := ⟨_, rfl⟩
  rw [← hq]
  unfold checkN at hq
  have hi0 := InBox.start w (.slice ap n.places.length cp) (.slice at_ n.trans.length ct)
  have Hlong := Lib.hid (tooLong_any (h.below hi0.old))
  cases hl : tooLongB n with
  | true =>
    rw [if_pos hl] at hq
    rw [hl] at Hlong
    obtain ⟨np, hnp⟩ : ∃ k, k = n.places.length := ⟨_, rfl⟩
    obtain ⟨nt, hnt⟩ : ∃ k, k = n.trans.length := ⟨_, rfl⟩
    rw [← hnp, ← hnt] at hi0 Hlong ⊢
    have Hi0 := Lib.hid hi0
    clear h hl hnp hnt hi0
    subst hq
    go_enter Try.func52, Try.ntmps52
    go_wp2_with (go_at_call 73; refine Hlong.out.mono ?_; rintro e w' ⟨rfl, hb⟩; have Hb := Lib.hid hb; clear hb)
    go_ret
    exact ⟨rfl, (Hi0.out.go Hb.out).old⟩
  | false =>
    rw [if_neg (by rw [hl]; simp)] at hq
    rw [hl] at Hlong
    have hlp : n.places.length ≤ 32 := by
      unfold tooLongB at hl; simp at hl; omega
    have hlt : n.trans.length ≤ 32 := by
      unfold tooLongB at hl; simp at hl; omega
    have HQ := Lib.hid hq
    have Hnet := Lib.hid h
    have Hs := Lib.hid hs
    have Hnm : Hid (∀ W : World, InBox w W (.slice ap n.places.length cp) (.slice at_ n.trans.length ct) → Calls Try.prog 75 #[.agg #[.slice ap n.places.length cp, .slice at_ n.trans.length ct]] W fun e w' => ∃ v, e = .returned v ∧ OwnS W.heap.size w' v n.names ∧ Below W.heap.size W w') :=
      Lib.hid (fun W hW => names_any (h.below hW.old) (by omega) (by omega))
    obtain ⟨hpl, lt, hts, htr⟩ := h
    have Hpl := Lib.hid hpl
    have Hts := Lib.hid hts
    have Htr := Lib.hid htr
    obtain ⟨np, hnp⟩ : ∃ k, k = n.places.length := ⟨_, rfl⟩
    obtain ⟨nt, hnt⟩ : ∃ k, k = n.trans.length := ⟨_, rfl⟩
    rw [← hnp, ← hnt] at hi0 Hlong Hnet Hnm ⊢
    rw [← hnp] at Hpl HQ hlp
    rw [← hnt] at Htr hlt
    have Hnp := Lib.hid hnp
    have Hnt := Lib.hid hnt
    have Hi0 := Lib.hid hi0
    clear hpl hts htr hnp hnt hi0 hl hs hq
    go_enter Try.func52, Try.ntmps52
    go_wp2_with fail
    refine Hlong.out.mono ?_
    rintro e w2 ⟨rfl, hb⟩
    have Hi2 := Lib.hid (Hi0.out.go hb)
    clear hb
    have b0 := Hi2.out.c0
    have b1 := Hi2.out.c1
    go_wp2_with fail
    refine (Hnm.out _ Hi2.out).mono ?_
    rintro e w3 ⟨v, rfl, hown, hb⟩
    have Hi3 := Lib.hid (Hi2.out.go hb)
    have hrow : StrsAt w3 v n.names := RowAt.of_own hown
    obtain ⟨av, cv, rfl⟩ := RowAt.len hrow
    have Hg := Lib.hid (goodNames_any hrow Hs.out)
    clear hown hrow hb b0 b1
    cases hnb : namesBad [] n.names with
    | true =>
      obtain rfl : q = 7 := by rw [HQ.out, if_pos hnb]
      rw [hnb] at Hg
      clear hnb
      go_wp2_with fail
      refine Hg.out.mono ?_
      rintro e w4 ⟨rfl, hb⟩
      have Hb := Lib.hid hb
      clear hb
      go_wp2
      go_ret
      exact ⟨rfl, (Hi3.out.go Hb.out).old⟩
    | false =>
      replace HQ : Hid (q = if placesBad n.places = true then 3 else transErr (np : Int) n.trans) := Lib.hid (by rw [HQ.out, if_neg (by rw [hnb]; simp)])
      rw [hnb] at Hg
      clear hnb
      go_wp2_with fail
      refine Hg.out.mono ?_
      rintro e w4 ⟨rfl, hb⟩
      have Hi4 := Lib.hid (Hi3.out.go hb)
      clear hb
      have b0 := Hi4.out.c0
      go_wp2
      clear b0
      go_loopw [17] (fun i wr => ∃ k : Nat, k ≤ np ∧ i = .int .i64 k ∧ InBox w wr (.slice ap np cp) (.slice at_ nt ct) ∧ Hid (placesBad n.places = anyFrom (fun p => !numB 0 p.tok) n.places k)) (fun i _ => np - (intOf i).toNat)
      case atStart => exact ⟨0, by omega, rfl, Hi4.out, Lib.hid (by rw [anyFrom_zero]; rfl)⟩
      case round =>
        rename World => v1
        obtain ⟨k, hk, rfl, hin, Hk⟩ := hrel
        by_cases hkl : k < np
        · obtain ⟨x, hx⟩ := at_lt (l := n.places) (k := k) (by rw [← Hnp.out]; exact hkl)
          have hlti : (k : Int) < (np : Int) := by omega
          obtain ⟨b, off, rfl, hbw, e0, e1⟩ := PlsAt.at_ (PlsAt.below Hpl.out hin.old) hx
          have Hin := Lib.hid hin
          have Hx := Lib.hid hx
          clear hin hx
          cases hf : numB 0 x.tok with
          | false =>
            have Hr : Hid (q = 3) := Lib.hid (by rw [HQ.out, if_pos (by rw [Hk.out]; exact anyFrom_yes Hx.out (by rw [hf]; rfl))])
            have HF := Lib.hid hf
            clear hf
            go_wp2_with (go_at_call 76; refine (bounds_any _ _ _).mono ?_; rintro e w' ⟨rfl, rfl⟩; rw [HF.out])
            go_ret
            exact ⟨by rw [Hr.out]; rfl, (Hin.out.alloc _).old⟩
          | true =>
            have Hr : Hid (placesBad n.places = anyFrom (fun p => !numB 0 p.tok) n.places (k + 1)) := Lib.hid (by rw [Hk.out]; exact anyFrom_no Hx.out (by rw [hf]; rfl))
            have HF := Lib.hid hf
            clear hf
            go_wp2_with (go_at_call 76; refine (bounds_any _ _ _).mono ?_; rintro e w' ⟨rfl, rfl⟩; rw [HF.out])
            go_roundw
            case rel => exact ⟨k + 1, by omega, by go_num, Hin.out.alloc _, Hr⟩
            case measure => simp [intOf]; omega
        · have hge : ¬ (k : Int) < (np : Int) := by omega
          have HQ2 : Hid (q = transFrom (np : Int) n.trans 0) := Lib.hid (by
            have e0 : placesBad n.places = false := by rw [Hk.out]; exact anyFrom_end _ _ _ (by rw [← Hnp.out]; omega)
            rw [HQ.out, if_neg (by rw [e0]; simp), transFrom_zero])
          have b1 := hin.c1
          have Hin := Lib.hid hin
          clear hin
          go_wp2
          clear b1
          go_loopw [29] (fun i wr => ∃ k : Nat, k ≤ nt ∧ i = .int .i64 k ∧ InBox w wr (.slice ap np cp) (.slice at_ nt ct) ∧ Hid (q = transFrom (np : Int) n.trans k)) (fun i _ => nt - (intOf i).toNat)
          case atStart => exact ⟨0, by omega, rfl, Hin.out, HQ2⟩
          case round =>
            rename World => v2
            obtain ⟨k, hk, rfl, hin, Hk⟩ := hrel
            by_cases hkl : k < nt
            · obtain ⟨t, ht⟩ := at_lt (l := n.trans) (k := k) (by rw [← Hnt.out]; exact hkl)
              have hlti : (k : Int) < (nt : Int) := by omega
              obtain ⟨b, off, a1, c1, a2, c2, a3, c3, rfl, hbw, e0, e1, e2, e3, e4, e5, g1, g2, g3⟩ := (Htr.out.below hin.old).at_ (i := k) (t := t) (by rw [Hts.out]; exact ht)
              have b0 := hin.c0
              have hbs := hin.size
              have Hst := Lib.hid (transFrom_step (P := (np : Int)) ht)
              have Hin := Lib.hid hin
              have G1 := Lib.hid g1
              have G2 := Lib.hid g2
              have G3 := Lib.hid g3
              clear ht hin g1 g2 g3
              cases hf : numB 0 t.delay with
              | false =>
                have Hr : Hid (q = 3) := Lib.hid (by rw [Hk.out, Hst.out, if_pos (by rw [hf]; rfl)])
                have HF := Lib.hid hf
                clear hf
                go_wp2_with (go_at_call 76; refine (bounds_any _ _ _).mono ?_; rintro e w' ⟨rfl, rfl⟩; rw [HF.out])
                go_ret
                exact ⟨by rw [Hr.out]; rfl, (Hin.out.alloc _).old⟩
              | true =>
                cases hg : numB 0 t.prio with
                | false =>
                  have Hr : Hid (q = 3) := Lib.hid (by rw [Hk.out, Hst.out, if_pos (by rw [hf, hg]; rfl)])
                  have HF := Lib.hid hf
                  have HG := Lib.hid hg
                  clear hf hg
                  go_wp2_with (go_at_call 76; refine (bounds_any _ _ _).mono ?_; rintro e w' ⟨rfl, rfl⟩; first | rw [HF.out] | rw [HG.out])
                  go_ret
                  exact ⟨by rw [Hr.out]; rfl, (Hin.out.alloc _).old⟩
                | true =>
                  have Hst2 : Hid (transFrom (np : Int) n.trans k = if listsErr (np : Int) t.lists = 0 then transFrom (np : Int) n.trans (k + 1) else listsErr (np : Int) t.lists) := Lib.hid (by rw [Hst.out, if_neg (by rw [hf, hg]; simp)])
                  have HF := Lib.hid hf
                  have HG := Lib.hid hg
                  clear hf hg
                  have Hca : Hid (∀ W : World, Below v2.heap.size v2 W → Calls Try.prog 77 #[.int .i64 (np : Int), .slice (some ⟨W.heap.size, 0, none⟩) 3 3] (W.alloc (.cells #[.slice a1 t.inn.length c1, .slice a2 t.nt.length c2, .slice a3 t.out.length c3] 77)) fun e w' => e = .returned (.int .i64 (listsErr (np : Int) t.lists)) ∧ Below (W.heap.size + 1) (W.alloc (.cells #[.slice a1 t.inn.length c1, .slice a2 t.nt.length c2, .slice a3 t.out.length c3] 77)) w') := Lib.hid (by
                    intro W hW
                    have hA := (Below.refl W.heap.size W).alloc (Nat.le_refl _) (.cells #[.slice a1 t.inn.length c1, .slice a2 t.nt.length c2, .slice a3 t.out.length c3] 77)
                    have hc := checkArcs_any (w := W.alloc (.cells #[.slice a1 t.inn.length c1, .slice a2 t.nt.length c2, .slice a3 t.out.length c3] 77)) (r := W.heap.size) (m := 3) (cap := 3) (ls := t.lists) (P := (np : Int)) rfl (by omega)
                      ⟨by simp, fun k l hkl => by
                        match k, hkl with
                        | 0, hkl => cases hkl; exact ⟨a1, c1, by go_simp, (G1.out.below hW).below hA⟩
                        | 1, hkl => cases hkl; exact ⟨a2, c2, by go_simp, (G2.out.below hW).below hA⟩
                        | 2, hkl => cases hkl; exact ⟨a3, c3, by go_simp, (G3.out.below hW).below hA⟩
                        | k + 3, hkl => simp [Tr.lists] at hkl⟩
                    have e : (W.alloc (.cells #[.slice a1 t.inn.length c1, .slice a2 t.nt.length c2, .slice a3 t.out.length c3] 77)).heap.size = W.heap.size + 1 := by simp
                    rw [e] at hc
                    exact hc)
                  replace Hca := Lib.hid (Hca.out _ ((Below.refl v2.heap.size v2).alloc (Nat.le_refl _) (.cells #[.string t.name, .int .i64 t.delay, .int .i64 t.prio, .slice a1 t.inn.length c1, .slice a2 t.nt.length c2, .slice a3 t.out.length c3] 79)))
                  rw [show ∀ (W : World) (o : Obj), (W.alloc o).heap.size = W.heap.size + 1 from fun W o => by simp] at Hca
                  obtain ⟨er, her⟩ : ∃ er, er = listsErr (np : Int) t.lists := ⟨_, rfl⟩
                  rw [← her] at Hca Hst2
                  clear her
                  by_cases he0 : er = 0
                  · have Hr : Hid (q = transFrom (np : Int) n.trans (k + 1)) := Lib.hid (by rw [Hk.out, Hst2.out, if_pos he0])
                    subst he0
                    go_wp2_with (first | (go_at_call 76; refine (bounds_any _ _ _).mono ?_; rintro e w' ⟨rfl, rfl⟩; first | rw [HF.out] | rw [HG.out]) | (go_at_call 77; refine Hca.out.mono ?_; rintro e w' ⟨rfl, hb'⟩; have HB := Lib.hid hb'; clear hb'))
                    go_roundw
                    case rel => exact ⟨k + 1, by omega, by go_num, ((Hin.out.alloc _).alloc _).go (HB.out.mono (by simp)), Hr⟩
                    case measure => simp [intOf]; omega
                  · have Hr : Hid (q = er) := Lib.hid (by rw [Hk.out, Hst2.out, if_neg he0])
                    have he0b : (er == 0) = false := by simpa using he0
                    have he0c : (er != 0) = true := by simpa using he0
                    go_wp2_with (first | (go_at_call 76; refine (bounds_any _ _ _).mono ?_; rintro e w' ⟨rfl, rfl⟩; first | rw [HF.out] | rw [HG.out]) | (go_at_call 77; refine Hca.out.mono ?_; rintro e w' ⟨rfl, hb'⟩; have HB := Lib.hid hb'; clear hb'))
                    go_ret
                    exact ⟨by rw [Hr.out]; rfl, (((Hin.out.alloc _).alloc _).go (HB.out.mono (by simp))).old⟩
            · have hge : ¬ (k : Int) < (nt : Int) := by omega
              have Hr : Hid (q = 0) := Lib.hid (by rw [Hk.out]; exact transFrom_end _ _ (by rw [← Hnt.out]; omega))
              have Hin := Lib.hid hin
              clear hin
              go_wp2
              go_ret
              exact ⟨by rw [Hr.out]; rfl, Hin.out.old⟩
end Go.Proofs.Ytpbbdnicafifpaa

/-! ## NetHand -/
namespace Go.Proofs.Ytpbbdnicafifpaa
open Go.RowKit
set_option linter.unusedVariables false

/-- the cells of a block, from k on -/
def CellsAre (w : World) (b : Nat) : Nat → List Value → Prop
  | _, [] => True
  | k, x :: r => w.cell? ⟨b, k, none⟩ = some x ∧ CellsAre w b (k + 1) r

theorem CellsAre.at_ {w : World} {b : Nat} {xs : List Value} : ∀ {k : Nat}, CellsAre w b k xs → ∀ j x, xs[j]? = some x → w.cell? ⟨b, k + j, none⟩ = some x := by
  induction xs with
  | nil => intro k _ j x hj; simp at hj
  | cons y r ih =>
    intro k h j x hj
    cases j with
    | zero => simp at hj; subst hj; exact h.1
    | succ j => have := ih h.2 j x (by simpa using hj); rwa [show k + 1 + j = k + (j + 1) by omega] at this

theorem CellsAre.below {W w1 : World} {b : Nat} (hb : Below W.heap.size W w1) (hlt : b < W.heap.size) {xs : List Value} : ∀ {k : Nat}, CellsAre W b k xs → CellsAre w1 b k xs := by
  induction xs with
  | nil => intro k _; trivial
  | cons y r ih => intro k h; exact ⟨(below_cells hb b k hlt).trans h.1, ih h.2⟩

theorem CellsAre.row {size n cap b : Nat} {w : World} {xs : List Value} (h : CellsAre w b 0 xs) (hb : b < w.heap.size) (hl : xs.length = n * size) (h1 : n ≤ cap) (h2 : cap ≤ 1000000) : RowAt size w (.slice (some ⟨b, 0, none⟩) n cap) n xs :=
  ⟨hl, _, cap, rfl, h1, by unfold maxLen; omega, .inr ⟨b, 0, rfl, hb, fun j x hj => h.at_ j x hj⟩⟩

theorem check_at {w : World} {n : Nt} {ap at_ : Option Addr} {cp ct np nt : Nat} {e : Int} (hnp : np = n.places.length) (hnt : nt = n.trans.length) (h : NetAt w (.slice ap np cp) (.slice at_ nt ct) n) (hs : ∀ s ∈ n.names, s.size ≤ 1000) (he : checkN n = e) :
    Calls Try.prog 52 #[.agg #[.slice ap np cp, .slice at_ nt ct]] w fun e' w' => e' = .returned (.int .i64 e) ∧ Below w.heap.size w w' := by
  subst hnp hnt he
  exact check_any h (fun s hm => by have := hs s hm; omega)

/-- a net whose transitions are laid one by one -/
theorem netAt_mk {w : World} {n : Nt} {vp vt : Value} (hp : PlsAt w vp n.places) (l : List (Tr × Value × Value × Value)) (hl : l.map (·.1) = n.trans) (ht : RowAt 6 w vt l.length (l.flatMap trL)) (ha : ∀ x ∈ l, ArcsAt w x.2.1 x.1.inn ∧ ArcsAt w x.2.2.1 x.1.nt ∧ ArcsAt w x.2.2.2 x.1.out) : NetAt w vp vt n :=
  ⟨hp, l, hl, ht, ha⟩

theorem arcsAt_nil (w : World) : ArcsAt w (.slice none 0 0) [] := RowAt.nil _ _
end Go.Proofs.Ytpbbdnicafifpaa

/-! ## New -/
namespace Go.Proofs.Ytpbbdnicafifpaa
open Go.RowKit

/-- a world in which all that w had is as it was -/
structure NewBy (w : World) where
  to : World
  below : Below w.heap.size w to

instance (w : World) : Inhabited (NewBy w) := ⟨⟨w, Below.refl _ _⟩⟩

theorem wp_region_new {P : Program} {id : Nat} {Q : Exit → Act → World → Prop} {a : Act} {w : World} {l : List Oper} (hm : P.follows .mixedOrders = true) (hB : Region.lexB .any l.toArray = true)
    (h : wpQuiet P l.toArray (fun w' => ∃ p : NewBy w, w' = p.to) (fun a' => ∀ w', (∃ p : NewBy w, w' = p.to) → Q .normal a' w') l a) : (Code.region id l.toArray true).wp P Q a w :=
  wp_region_quiet (C := fun w' => ∃ p : NewBy w, w' = p.to) hm hB ⟨⟨w.drew, (Below.refl _ _).drew⟩, rfl⟩ (by simpa using h)

theorem Calls.new_of {P : Program} {f : FuncId} {args : Array Value} {w : World} {p : NewBy w} {v : Value}
    (h : Calls P f args p.to fun e w' => e = .returned v ∧ Below p.to.heap.size p.to w') : Calls P f args p.to fun e w'' => e = .returned v ∧ ∃ q : NewBy w, w'' = q.to :=
  h.mono fun _ w' h => ⟨h.1, ⟨w', p.below.trans (h.2.mono p.below.size)⟩, rfl⟩

theorem NewBy.cell {w : World} {b o : Nat} {v : Value} (hb : b < w.heap.size) (hc : w.cell? ⟨b, o, none⟩ = some v) (p : NewBy w) : p.to.cell? ⟨b, o, none⟩ = some v :=
  (p.below.cell (p := ⟨b, o, none⟩) hb).trans hc

end Go.Proofs.Ytpbbdnicafifpaa
