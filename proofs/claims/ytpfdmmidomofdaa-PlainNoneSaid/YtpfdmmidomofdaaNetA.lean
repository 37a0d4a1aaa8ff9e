/-
  What net's small functions come to: numbers in their bounds; the longest of three lists; is a net too long?
  Conditions: none beyond each theorem's own.
-/
import Derived.Test.YtpfdmmidomofdaaRowAt
namespace Go.Proofs.Ytpfdmmidomofdaa
open Go.RowKit
set_option linter.unusedVariables false

theorem bounds_any (n l : Int) (w : World) : Calls Try.prog 57 #[.int .i64 n, .int .i64 l] w fun e w' => e = .returned (.bool (numB l n)) ∧ w = w' := by
  by_cases h1 : l ≤ n
  · by_cases h2 : n ≤ 1000000
    · have e : numB l n = true := by simp [numB, h1, h2]
      rw [e]
      clear e
      go_enter Try.func57, Try.ntmps57
      go_wp2
      go_ret
      exact ⟨rfl, rfl⟩
    · have h2b : decide (n ≤ 1000000) = false := decide_eq_false h2
      have e : numB l n = false := by simp [numB, h1, h2b]
      rw [e]
      clear e
      go_enter Try.func57, Try.ntmps57
      go_wp2
      go_ret
      exact ⟨rfl, rfl⟩
  · have h1b : decide (l ≤ n) = false := decide_eq_false h1
    have e : numB l n = false := by simp [numB, h1b]
    rw [e]
    clear e
    go_enter Try.func57, Try.ntmps57
    go_wp2
    go_ret
    exact ⟨rfl, rfl⟩

/-- the longest of three -/
def max3 (a b c : Nat) : Nat := max (max a b) c

set_option maxRecDepth 100000 in
theorem longest_any (r cap n1 n2 n3 c1 c2 c3 : Nat) (a1 a2 a3 : Option Addr) (w : World) (h1 : w.cell? ⟨r, 0, none⟩ = some (.slice a1 n1 c1)) (h2 : w.cell? ⟨r, 1, none⟩ = some (.slice a2 n2 c2)) (h3 : w.cell? ⟨r, 2, none⟩ = some (.slice a3 n3 c3)) :
    Calls Try.prog 77 #[.slice (some ⟨r, 0, none⟩) 3 cap] w fun e w' => e = .returned (.int .i64 (max3 n1 n2 n3 : Nat)) ∧ w = w' := by
  obtain ⟨m1, hm1⟩ : ∃ m, m = max n1 n2 := ⟨_, rfl⟩
  obtain ⟨m2, hm2⟩ : ∃ m, m = max3 n1 n2 n3 := ⟨_, rfl⟩
  have e2 : max (n1 : Int) (n2 : Int) = (m1 : Int) := by omega
  have e3 : max (m1 : Int) (n3 : Int) = (m2 : Int) := by unfold max3 at hm2; omega
  have e1 : max (0 : Int) (n1 : Int) = (n1 : Int) := by omega
  rw [← hm2]
  clear hm1 hm2
  go_enter Try.func77, Try.ntmps77
  go_wp2
  go_loop [3, 8] (fun m i => (i = .int .i64 0 ∧ m = .int .i64 0) ∨ (i = .int .i64 1 ∧ m = .int .i64 n1) ∨ (i = .int .i64 2 ∧ m = .int .i64 m1) ∨ (i = .int .i64 3 ∧ m = .int .i64 m2)) (fun _ i => 3 - (intOf i).toNat)
  case atStart => exact .inl ⟨rfl, rfl⟩
  case round =>
    rcases hrel with ⟨rfl, rfl⟩ | ⟨rfl, rfl⟩ | ⟨rfl, rfl⟩ | ⟨rfl, rfl⟩
    · go_wp2
      go_round
      case rel => exact .inr (.inl ⟨by go_num, rfl⟩)
      case measure => simp [intOf]
    · go_wp2
      go_round
      case rel => exact .inr (.inr (.inl ⟨by go_num, rfl⟩))
      case measure => simp [intOf]
    · go_wp2
      go_round
      case rel => exact .inr (.inr (.inr ⟨by go_num, rfl⟩))
      case measure => simp [intOf]
    · go_wp2
      go_ret
      exact ⟨rfl, rfl⟩

/-- what is new lies behind what was -/
theorem below_cells {W w1 : World} (hb : Below W.heap.size W w1) : (∀ b o, b < W.heap.size → w1.cell? ⟨b, o, none⟩ = W.cell? ⟨b, o, none⟩) :=
  fun b o h => hb.cell (p := ⟨b, o, none⟩) h

/-- a transition's value -/
abbrev trV (s : ByteArray) (d p : Int) (a1 : Option Addr) (n1 c1 : Nat) (a2 : Option Addr) (n2 c2 : Nat) (a3 : Option Addr) (n3 c3 : Nat) : Value :=
  .agg #[.string s, .int .i64 d, .int .i64 p, .slice a1 n1 c1, .slice a2 n2 c2, .slice a3 n3 c3]

def long3 (a b c : Nat) : Bool := decide (8 < max3 a b c)

set_option maxRecDepth 100000 in
theorem long1_any (s : ByteArray) (d p : Int) (a1 a2 a3 : Option Addr) (n1 c1 n2 c2 n3 c3 : Nat) (w : World) :
    Calls Try.prog 76 #[trV s d p a1 n1 c1 a2 n2 c2 a3 n3 c3] w fun e w' => e = .returned (.bool (long3 n1 n2 n3)) ∧ Below w.heap.size w w' := by
  obtain ⟨m, hm⟩ : ∃ m, m = max3 n1 n2 n3 := ⟨_, rfl⟩
  have Hm := Lib.hid hm
  have e : long3 n1 n2 n3 = decide (8 < m) := by rw [hm]; rfl
  rw [e]
  clear e hm
  by_cases h8 : 8 < m
  · have h8i : (8 : Int) < (m : Int) := by omega
    go_enter Try.func76, Try.ntmps76
    go_wp2_with (go_at_call 77; refine (longest_any _ _ n1 n2 n3 c1 c2 c3 a1 a2 a3 _ (by go_simp) (by go_simp) (by go_simp)).mono ?_; rintro e w' ⟨rfl, rfl⟩; rw [← Hm.out])
    go_ret
    exact ⟨by simp [h8], ((Below.refl _ _).alloc (Nat.le_refl _) _).alloc (by simp) _⟩
  · have h8i : ¬ (8 : Int) < (m : Int) := by omega
    have h8b : decide ((8 : Int) < (m : Int)) = false := decide_eq_false h8i
    have h8c : decide (8 < m) = false := decide_eq_false h8
    go_enter Try.func76, Try.ntmps76
    go_wp2_with (go_at_call 77; refine (longest_any _ _ n1 n2 n3 c1 c2 c3 a1 a2 a3 _ (by go_simp) (by go_simp) (by go_simp)).mono ?_; rintro e w' ⟨rfl, rfl⟩; rw [← Hm.out])
    go_ret
    exact ⟨by simp [h8], ((Below.refl _ _).alloc (Nat.le_refl _) _).alloc (by simp) _⟩

set_option maxRecDepth 100000 in
set_option maxHeartbeats 1000000 in
theorem idxLong_any {w : World} {l : List (Tr × Value × Value × Value)} {ts : List Tr} (hts : l.map (·.1) = ts) {a : Option Addr} {cap : Nat} (h : TrsAt w (.slice a ts.length cap) l) :
    Calls Try.prog 96 #[.slice a ts.length cap, .func (.func 76) #[] #[]] w fun e w' => e = .returned (.int .i64 (idxOf longT ts)) ∧ Below w.heap.size w w' := by
  obtain ⟨n, hn⟩ : ∃ n, n = ts.length := ⟨_, rfl⟩
  have hmax : n ≤ 9223372036854775807 := by have := RowAt.max h.1; rw [hn, ← hts, List.length_map]; exact this
  rw [← hn] at h ⊢
  have H := Lib.hid h
  have Hts := Lib.hid hts
  have Hn := Lib.hid hn
  obtain ⟨q, hq⟩ : ∃ q, q = idxOf longT ts := ⟨_, rfl⟩
  rw [← hq]
  have Hq : Hid (q = idxFrom longT ts 0) := Lib.hid hq
  clear h hts hn hq
  go_enter Try.func96, Try.ntmps96
  go_wp2
  go_loopw [8] (fun i wr => ∃ k : Nat, k ≤ n ∧ i = .int .i64 k ∧ Below w.heap.size w wr ∧ Hid (q = idxFrom longT ts k)) (fun i _ => n - (intOf i).toNat)
  case atStart => exact ⟨0, by omega, rfl, Below.refl _ _, Hq⟩
  case round =>
    obtain ⟨k, hk, rfl, hb, Hk⟩ := hrel
    by_cases hlt : k < n
    · obtain ⟨t, ht⟩ := at_lt (l := ts) (k := k) (by rw [← Hn.out]; exact hlt)
      have hlti : (k : Int) < (n : Int) := by omega
      obtain ⟨b, off, a1, c1, a2, c2, a3, c3, rfl, hbw, e0, e1, e2, e3, e4, e5, _, _, _⟩ := (H.out.below hb).at_ (i := k) (t := t) (by rw [Hts.out]; exact ht)
      have Ht := Lib.hid ht
      have Hb := Lib.hid hb
      obtain ⟨n1, hn1⟩ : ∃ n, n = t.inn.length := ⟨_, rfl⟩
      obtain ⟨n2, hn2⟩ : ∃ n, n = t.nt.length := ⟨_, rfl⟩
      obtain ⟨n3, hn3⟩ : ∃ n, n = t.out.length := ⟨_, rfl⟩
      obtain ⟨s, hs⟩ : ∃ s, s = t.name := ⟨_, rfl⟩
      obtain ⟨d, hd⟩ : ∃ s, s = t.delay := ⟨_, rfl⟩
      obtain ⟨p, hp⟩ : ∃ s, s = t.prio := ⟨_, rfl⟩
      have Hf : Hid (longT t = long3 n1 n2 n3) := Lib.hid (by rw [hn1, hn2, hn3]; rfl)
      rw [← hn1] at e3; rw [← hn2] at e4; rw [← hn3] at e5
      rw [← hs] at e0; rw [← hd] at e1; rw [← hp] at e2
      clear ht hb hn1 hn2 hn3 hs hd hp
      cases hf : long3 n1 n2 n3 with
      | true =>
        have Hr : Hid (q = (k : Int)) := Lib.hid (by rw [Hk.out]; exact idxFrom_yes Ht.out (by rw [Hf.out]; exact hf))
        have HF := Lib.hid hf
        clear hf
        go_wp2_with (go_at_call 76; refine (long1_any _ _ _ _ _ _ _ _ _ _ _ _ _).mono ?_; rintro e w' ⟨rfl, hb'⟩; have HB := Lib.hid hb'; clear hb'; rw [HF.out])
        go_ret
        exact ⟨by rw [Hr.out]; rfl, Hb.out.trans (HB.out.mono Hb.out.size)⟩
      | false =>
        have Hr : Hid (q = idxFrom longT ts (k + 1)) := Lib.hid (by rw [Hk.out]; exact idxFrom_no Ht.out (by rw [Hf.out]; exact hf))
        have HF := Lib.hid hf
        clear hf
        go_wp2_with (go_at_call 76; refine (long1_any _ _ _ _ _ _ _ _ _ _ _ _ _).mono ?_; rintro e w' ⟨rfl, hb'⟩; have HB := Lib.hid hb'; clear hb'; rw [HF.out])
        go_roundw
        case rel => exact ⟨k + 1, by omega, by go_num, Hb.out.trans (HB.out.mono Hb.out.size), Hr⟩
        case measure => simp [intOf]; omega
    · have hge : ¬ (k : Int) < (n : Int) := by omega
      have Hr : Hid (q = -1) := Lib.hid (by rw [Hk.out]; exact idxFrom_end _ _ _ (by rw [← Hn.out]; omega))
      have Hb := Lib.hid hb
      clear hb
      go_wp2
      go_ret
      exact ⟨by rw [Hr.out]; rfl, Hb.out⟩

set_option maxRecDepth 100000 in
theorem conLong_any {w : World} {l : List (Tr × Value × Value × Value)} {ts : List Tr} (hts : l.map (·.1) = ts) {a : Option Addr} {cap : Nat} (h : TrsAt w (.slice a ts.length cap) l) :
    Calls Try.prog 75 #[.slice a ts.length cap, .func (.func 76) #[] #[]] w fun e w' => e = .returned (.bool (ts.any longT)) ∧ Below w.heap.size w w' := by
  have hc := idxLong_any hts h
  have h1 : ts.any longT = true → 0 ≤ idxOf longT ts := idxOf_yes
  have h2 : ts.any longT = false → idxOf longT ts = -1 := idxOf_no
  clear h hts
  revert hc h1 h2
  generalize ts.any longT = z
  generalize ts.length = n
  generalize idxOf longT ts = q
  intro hc h1 h2
  replace hc := Lib.hid hc
  replace h1 := Lib.hid h1
  replace h2 := Lib.hid h2
  cases z with
  | true =>
    have g : 0 ≤ q := h1.out rfl
    go_enter Try.func75, Try.ntmps75
    go_wp2_with fail
    refine hc.out.mono ?_
    rintro e w' ⟨rfl, hb⟩
    go_wp2
    go_ret
    exact ⟨rfl, hb⟩
  | false =>
    obtain rfl : q = -1 := h2.out rfl
    go_enter Try.func75, Try.ntmps75
    go_wp2_with fail
    refine hc.out.mono ?_
    rintro e w' ⟨rfl, hb⟩
    go_wp2
    go_ret
    exact ⟨rfl, hb⟩
end Go.Proofs.Ytpfdmmidomofdaa
