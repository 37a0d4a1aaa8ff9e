/-
  What Name of lex comes to: is a text a word of at most twelve bytes?
  Conditions: none beyond each theorem's own.
-/
import Derived.Test.YtpbbdnicafifpaaBase4
import Derived.WalkMore
namespace Go.Proofs.Ytpbbdnicafifpaa
open Go.RowKit
set_option linter.unusedVariables false

/-- is it a word's bytes? -/
def wordB : List UInt8 → Bool
  | [] => false
  | c :: r => isSmall c && r.all isWordy

/-- is it a name's bytes? -/
def nameB (l : List UInt8) : Bool := wordB l && decide (l.length ≤ 12)

theorem wordB_iff (l : List UInt8) : wordB l = true ↔ IsWord l := by
  cases l with
  | nil =>
    constructor
    · intro h; cases h
    · rintro ⟨c, r, e, _⟩; cases e
  | cons c r =>
    constructor
    · intro h
      simp [wordB] at h
      exact ⟨c, r, rfl, h.1, h.2⟩
    · rintro ⟨c', r', e, h1, h2⟩
      injection e with e1 e2
      subst e1; subst e2
      simp [wordB, h1]
      exact h2

theorem small_wordy {c : UInt8} (h : isSmall c = true) : isWordy c = true := by simp [isWordy, h]

theorem name_true (d : List UInt8) (h0 : 0 < d.length) (h1 : d.length ≤ 12) (h : ∀ i (hi : i < d.length), isWordy d[i] = true ∧ (i = 0 → isSmall d[i] = true)) : nameB d = true := by
  have hw : wordB d = true := by
    cases d with
    | nil => simp at h0
    | cons c r =>
      have hc := (h 0 (by simp)).2 rfl
      simp at hc
      simp [wordB, hc]
      intro x hx
      obtain ⟨i, hi, rfl⟩ := List.getElem_of_mem hx
      have := (h (i + 1) (by simpa using hi)).1
      simpa using this
  simp [nameB, hw, h1]

theorem name_false (d : List UInt8) (i : Nat) (hi : i < d.length) (h : isWordy d[i] = false ∨ (i = 0 ∧ isSmall d[i] = false)) : nameB d = false := by
  cases e : nameB d with
  | false => rfl
  | true =>
    exfalso
    unfold nameB at e
    simp at e
    obtain ⟨c, r, rfl, hc, hr⟩ := (wordB_iff d).1 e.1
    cases i with
    | zero =>
      simp at h
      rw [small_wordy hc, hc] at h
      simp at h
    | succ i =>
      simp at h
      have hi2 : i < r.length := by simpa using hi
      have := hr (r[i]'hi2) (List.getElem_mem _)
      rw [this] at h
      cases h

section
variable {w : World}

set_option maxRecDepth 100000 in
set_option maxHeartbeats 2000000 in
theorem name_any (s : ByteArray) (w : World) (hmax : s.size ≤ 9223372036854775807) :
    Calls Try.prog 96 #[.string s] w fun e w' => e = .returned (.bool (nameB s.data.toList)) ∧ Below w.heap.size w w' := by
  obtain ⟨d, hd⟩ : ∃ d, d = s.data.toList := ⟨_, rfl⟩
  have hlen : d.length = s.size := by rw [hd]; exact Array.length_toList
  have hget : ∀ k (h : k < s.size) (hk : k < d.length), s[k]'h = d[k] := by
    intro k h hk
    subst hd
    simp
    rfl
  rw [← hd]
  have Hlen := Lib.hid hlen
  have Hget := Lib.hid hget
  have htl : s.toList = d := by rw [Lib.toList_data, hd]
  obtain ⟨q, hq⟩ : ∃ q, q = nameB d := ⟨_, rfl⟩
  rw [← hq]
  have Hq := Lib.hid hq
  clear hd hlen hget hq
  by_cases h0 : s.size = 0
  · have hnil : s.toList = [] := by rw [htl]; exact List.eq_nil_of_length_eq_zero (by rw [Hlen.out]; exact h0)
    have hq0 : Hid (q = false) := Lib.hid (by rw [Hq.out, ← htl, hnil]; rfl)
    clear htl h0
    go_enter Try.func96, Try.ntmps96
    go_wp2
    go_ret
    exact ⟨ret_bool (a := false) hq0.out.symm, Below.refl _ _⟩
  have hne : ¬ s.toList = [] := by rw [htl]; intro e; apply h0; rw [← Hlen.out, e]; rfl
  have hemp : s.toList.isEmpty = false := by rw [List.isEmpty_eq_false_iff]; exact hne
  have hbe : (s.toList == []) = false := by rw [beq_eq_false_iff_ne]; exact hne
  clear htl
  by_cases h12 : 12 < s.size
  · have h12i : (12 : Int) < (s.size : Int) := by omega
    have hq0 : Hid (q = false) := Lib.hid (by rw [Hq.out]; unfold nameB; rw [decide_eq_false (by rw [Hlen.out]; omega)]; simp)
    go_enter Try.func96, Try.ntmps96
    go_wp2
    go_ret
    exact ⟨ret_bool (a := false) hq0.out.symm, Below.refl _ _⟩
  · have h12i : ¬ (12 : Int) < (s.size : Int) := by omega
    have h12b : decide ((12 : Int) < (s.size : Int)) = false := by simpa using h12i
    have h12c : decide (12 < s.size) = false := by simpa using h12
    go_enter Try.func96, Try.ntmps96
    go_wp2
    go_loopw [3] (fun _ wr => ∃ k : Nat, k ≤ s.size ∧ wr = w.iter s k ∧ ∀ i (hi : i < d.length), i < k → isWordy d[i] = true ∧ (i = 0 → isSmall d[i] = true)) (fun _ wr => s.size - wr.iterPos w.heap.size)
    case atStart => exact ⟨0, by omega, rfl, fun i hi h => by omega⟩
    case round =>
      obtain ⟨k, hk, rfl, hall⟩ := hrel
      have Hall := Lib.hid hall
      clear hall
      by_cases hlt : k < s.size
      · have hkd : k < d.length := by rw [Hlen.out]; exact hlt
        have hsk := Hget.out k hlt hkd
        obtain ⟨x, hx⟩ : ∃ x, x = d[k] := ⟨_, rfl⟩
        rw [← hx] at hsk
        have Hx := Lib.hid hx
        by_cases hasc : x.toNat < 128
        · have hnext := fun ty => run_next_ascii (P := Try.prog) w s k ty hlt (by rw [hsk]; exact hasc)
          rw [hsk] at hnext
          obtain ⟨z, hz⟩ : ∃ z, z = zi x := ⟨_, rfl⟩
          have hzx : ((x.toNat : Nat) : Int) = z := by rw [hz]; rfl
          have Hz := Lib.hid hz
          have hnext2 : ∀ ty, (Instr.next (.pointer (some ⟨w.heap.size, 0, none⟩)) true ty).run Try.prog (w.iter s k) = .ok (.tuple #[.bool true, .int .i64 k, .int .i32 z]) (w.iter s (k + 1)) := fun ty => by rw [hnext ty, hzx]
          clear hnext hsk hx hz hzx
          cases hP : wordyI z with
          | false =>
            have hq0 : Hid (q = false) := Lib.hid (by rw [Hq.out]; exact name_false d k hkd (.inl (by rw [← Hx.out, ← wordy_zi, ← Hz.out]; exact hP)))
            go_wp2_with (first | (go_at_call 112; refine (inWord_any _ _).mono ?_; rintro e w' ⟨rfl, rfl⟩) | (go_at_call 113; refine (letter_any _ _).mono ?_; rintro e w' ⟨rfl, rfl⟩))
            go_ret
            exact ⟨ret_bool (a := false) hq0.out.symm, (Below.refl _ w).alloc (Nat.le_refl _) _⟩
          | true =>
            have HW : Hid (isWordy d[k] = true) := Lib.hid (by rw [← Hx.out, ← wordy_zi, ← Hz.out]; exact hP)
            by_cases hk0 : k = 0
            · subst hk0
              cases hS : smallI z with
              | false =>
                have hq0 : Hid (q = false) := Lib.hid (by rw [Hq.out]; exact name_false d 0 hkd (.inr ⟨rfl, by rw [← Hx.out, ← small_zi, ← Hz.out]; exact hS⟩))
                go_wp2_with (first | (go_at_call 112; refine (inWord_any _ _).mono ?_; rintro e w' ⟨rfl, rfl⟩) | (go_at_call 113; refine (letter_any _ _).mono ?_; rintro e w' ⟨rfl, rfl⟩))
                go_ret
                exact ⟨ret_bool (a := false) hq0.out.symm, (Below.refl _ w).alloc (Nat.le_refl _) _⟩
              | true =>
                have HS2 : Hid (isSmall d[0] = true) := Lib.hid (by rw [← Hx.out, ← small_zi, ← Hz.out]; exact hS)
                go_wp2_with (first | (go_at_call 112; refine (inWord_any _ _).mono ?_; rintro e w' ⟨rfl, rfl⟩) | (go_at_call 113; refine (letter_any _ _).mono ?_; rintro e w' ⟨rfl, rfl⟩))
                go_roundw
                case rel => exact ⟨1, by omega, rfl, fun i hi h => by
                  obtain rfl : i = 0 := by omega
                  exact ⟨HW.out, fun _ => HS2.out⟩⟩
                case measure => simp; omega
            · have hkn : ¬ (k : Int) = 0 := by omega
              have hkb : ((k : Int) == 0) = false := by simpa using hkn
              go_wp2_with (first | (go_at_call 112; refine (inWord_any _ _).mono ?_; rintro e w' ⟨rfl, rfl⟩) | (go_at_call 113; refine (letter_any _ _).mono ?_; rintro e w' ⟨rfl, rfl⟩))
              go_roundw
              case rel => exact ⟨k + 1, by omega, rfl, fun i hi h => by
                by_cases e : i = k
                · subst e
                  exact ⟨HW.out, fun e0 => absurd e0 hk0⟩
                · exact Hall.out i hi (by omega)⟩
              case measure => simp; omega
        · have hnext := fun ty => run_next_any (P := Try.prog) w s k ty hlt
          obtain ⟨hr1, hr2⟩ := decode_high s k hlt (by rw [hsk]; omega)
          obtain ⟨r, hr⟩ : ∃ r, r = (Utf8.decode s k).1 := ⟨_, rfl⟩
          obtain ⟨sz, hsz⟩ : ∃ sz, sz = (Utf8.decode s k).2 := ⟨_, rfl⟩
          rw [← hr, ← hsz] at hnext
          rw [← hr] at hr1
          have hP : wordyI r = false := by
            unfold wordyI smallI digitI
            rw [decide_eq_false (by omega), decide_eq_false (by omega), decide_eq_false (by omega)]
            rfl
          have hq0 : Hid (q = false) := Lib.hid (by
            rw [Hq.out]
            refine name_false d k hkd (.inl ?_)
            rw [← Hx.out]
            unfold isWordy isSmall isDigit
            rw [decide_eq_false (by omega), decide_eq_false (by omega)]
            simp
            omega)
          clear hr hsz hr2 hsk hx
          go_wp2_with (first | (go_at_call 112; refine (inWord_any _ _).mono ?_; rintro e w' ⟨rfl, rfl⟩) | (go_at_call 113; refine (letter_any _ _).mono ?_; rintro e w' ⟨rfl, rfl⟩))
          go_ret
          exact ⟨ret_bool (a := false) hq0.out.symm, (Below.refl _ w).alloc (Nat.le_refl _) _⟩
      · obtain rfl : k = s.size := by omega
        have hnext := fun ty => run_next_end (P := Try.prog) w s s.size ty hlt
        have hq0 : Hid (q = true) := Lib.hid (by rw [Hq.out]; exact name_true d (by rw [Hlen.out]; omega) (by rw [Hlen.out]; omega) (fun i hi => Hall.out i hi (by rw [← Hlen.out]; exact hi)))
        go_wp2
        go_ret
        exact ⟨ret_bool (a := true) hq0.out.symm, (Below.refl _ w).alloc (Nat.le_refl _) _⟩

end

end Go.Proofs.Ytpbbdnicafifpaa
