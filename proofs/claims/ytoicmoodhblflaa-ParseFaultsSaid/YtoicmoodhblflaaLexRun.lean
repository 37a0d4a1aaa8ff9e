/-
  What run and number of lex come to: the bytes of a kind ahead; the number that digits stand for, or that it is too great.
  Conditions: texts of up to 1000000 bytes.
-/
import Derived.Test.YtoicmoodhblflaaLexSkip
namespace Go.Proofs.Ytoicmoodhblflaa
open Go.RowKit
set_option linter.unusedVariables false

section
variable {w : World} {A : Option Addr} {n : Nat} {l : List UInt8}

set_option maxRecDepth 100000 in
set_option maxHeartbeats 2000000 in
theorem run_word (h : BytesAt w A n l) (c : Nat) (hc : n ≤ c) (hn : n ≤ 1000000) :
    Calls Try.prog 76 #[.slice A n c, .func (.func 69) #[] #[]] w fun e w' => e = .returned (.string (bs (l.takeWhile isWordy))) ∧ w = w' := by
  have H := Lib.hid h
  clear h
  go_enter Try.func76, Try.ntmps76
  go_wp2
  go_loop [5] (fun t => ∃ k : Nat, k ≤ n ∧ t = .int .i64 k ∧ ∀ i (hi : i < l.length), i < k → isWordy l[i] = true) (fun t => n - (intOf t).toNat)
  case atStart => exact ⟨0, by omega, rfl, fun i hi h => by omega⟩
  case round =>
    obtain ⟨k, hkn, rfl, hall⟩ := hrel
    have Hall := Lib.hid hall
    clear hall
    have hstr := (H.out.take k hkn).str c
    obtain ⟨sv, hsv⟩ : ∃ sv, sv = bs (l.take k) := ⟨_, rfl⟩
    rw [← hsv] at hstr
    have Hsv := Lib.hid hsv
    clear hsv
    by_cases hlt : k < n
    · obtain ⟨b, off, x, hA, hb, hx, hd, hce⟩ := H.out.at_ hlt
      subst hA
      obtain ⟨z, hz⟩ : ∃ z, z = zi x := ⟨_, rfl⟩
      rw [← hz] at hce
      have hxl : Hid (∀ hk : k < l.length, l[k] = x) := Lib.hid (fun hk => (List.getElem?_eq_some_iff.1 hx).2)
      obtain ⟨z0, z1⟩ := zi_bd x
      rw [← hz] at z0 z1
      have Hz := Lib.hid hz
      clear hz hd hx
      have hlti : (k : Int) < (n : Int) := by omega
      cases hP : wordyI z with
      | true =>
        go_wp2_with (go_at_call 69; refine (inWord_any _ _).mono ?_; rintro e w' ⟨rfl, rfl⟩)
        go_round
        case rel => exact ⟨k + 1, by omega, by go_num, fun i hi h => by
          by_cases e : i = k
          · subst e
            rw [hxl.out hi, ← wordy_zi, ← Hz.out]
            exact hP
          · exact Hall.out i hi (by omega)⟩
        case measure => simp [intOf]; omega
      | false =>
        go_wp2_with (go_at_call 69; refine (inWord_any _ _).mono ?_; rintro e w' ⟨rfl, rfl⟩)
        go_ret
        refine ⟨?_, rfl⟩
        rw [(take_len l k (by rw [H.out.len]; omega) Hall.out (fun hk => by rw [hxl.out hk, ← wordy_zi, ← Hz.out]; exact hP)).1, ← Hsv.out]
        rfl
    · have hge : ¬ (k : Int) < (n : Int) := by omega
      go_wp2_with fail
      go_ret
      refine ⟨?_, rfl⟩
      rw [(take_len l k (by rw [H.out.len]; omega) Hall.out (fun hk => by rw [H.out.len] at hk; omega)).1, ← Hsv.out]
      rfl

set_option maxRecDepth 100000 in
set_option maxHeartbeats 2000000 in
theorem run_digits (h : BytesAt w A n l) (c : Nat) (hc : n ≤ c) (hn : n ≤ 1000000) :
    Calls Try.prog 76 #[.slice A n c, .func (.func 77) #[] #[]] w fun e w' => e = .returned (.string (bs (l.takeWhile isDigit))) ∧ w = w' := by
  have H := Lib.hid h
  clear h
  go_enter Try.func76, Try.ntmps76
  go_wp2
  go_loop [5] (fun t => ∃ k : Nat, k ≤ n ∧ t = .int .i64 k ∧ ∀ i (hi : i < l.length), i < k → isDigit l[i] = true) (fun t => n - (intOf t).toNat)
  case atStart => exact ⟨0, by omega, rfl, fun i hi h => by omega⟩
  case round =>
    obtain ⟨k, hkn, rfl, hall⟩ := hrel
    have Hall := Lib.hid hall
    clear hall
    have hstr := (H.out.take k hkn).str c
    obtain ⟨sv, hsv⟩ : ∃ sv, sv = bs (l.take k) := ⟨_, rfl⟩
    rw [← hsv] at hstr
    have Hsv := Lib.hid hsv
    clear hsv
    by_cases hlt : k < n
    · obtain ⟨b, off, x, hA, hb, hx, hd, hce⟩ := H.out.at_ hlt
      subst hA
      obtain ⟨z, hz⟩ : ∃ z, z = zi x := ⟨_, rfl⟩
      rw [← hz] at hce
      have hxl : Hid (∀ hk : k < l.length, l[k] = x) := Lib.hid (fun hk => (List.getElem?_eq_some_iff.1 hx).2)
      obtain ⟨z0, z1⟩ := zi_bd x
      rw [← hz] at z0 z1
      have Hz := Lib.hid hz
      clear hz hd hx
      have hlti : (k : Int) < (n : Int) := by omega
      cases hP : digitI z with
      | true =>
        go_wp2_with (go_at_call 77; refine (digit_any _ _).mono ?_; rintro e w' ⟨rfl, rfl⟩)
        go_round
        case rel => exact ⟨k + 1, by omega, by go_num, fun i hi h => by
          by_cases e : i = k
          · subst e
            rw [hxl.out hi, ← digit_zi, ← Hz.out]
            exact hP
          · exact Hall.out i hi (by omega)⟩
        case measure => simp [intOf]; omega
      | false =>
        go_wp2_with (go_at_call 77; refine (digit_any _ _).mono ?_; rintro e w' ⟨rfl, rfl⟩)
        go_ret
        refine ⟨?_, rfl⟩
        rw [(take_len l k (by rw [H.out.len]; omega) Hall.out (fun hk => by rw [hxl.out hk, ← digit_zi, ← Hz.out]; exact hP)).1, ← Hsv.out]
        rfl
    · have hge : ¬ (k : Int) < (n : Int) := by omega
      go_wp2_with fail
      go_ret
      refine ⟨?_, rfl⟩
      rw [(take_len l k (by rw [H.out.len]; omega) Hall.out (fun hk => by rw [H.out.len] at hk; omega)).1, ← Hsv.out]
      rfl

theorem valOf_take_le (d : List UInt8) (k : Nat) : valOf (d.take k) ≤ valOf d := by
  have h := valOf_append (d.take k) (d.drop k)
  rw [List.take_append_drop] at h
  have h1 : 1 ≤ 10 ^ (d.drop k).length := Nat.pow_pos (by omega)
  have h2 : valOf (d.take k) * 1 ≤ valOf (d.take k) * 10 ^ (d.drop k).length := Nat.mul_le_mul_left _ h1
  omega

/-- what number answers -/
def numV (v : Nat) : Value := if maxNum < v then .tuple #[.int .i64 0, .bool false] else .tuple #[.int .i64 (v : Int), .bool true]

theorem bs_at (d : List UInt8) (k : Nat) (h : k < (bs d).size) : ∃ hk : k < d.length, (bs d)[k] = d[k] := by
  have hk : k < d.length := by rw [bs_size] at h; exact h
  exact ⟨hk, rfl⟩

set_option maxRecDepth 100000 in
set_option maxHeartbeats 2000000 in
theorem number_any (d : List UInt8) (hd : ∀ x ∈ d, isDigit x = true) (hn : d.length ≤ 1000000) (w : World) :
    Calls Try.prog 78 #[.string (bs d)] w fun e w' => e = .returned (numV (valOf d)) ∧ Below w.heap.size w w' := by
  have Hd := Lib.hid hd
  have Hs := Lib.hid (bs_size d)
  obtain ⟨s, hs⟩ : ∃ s, s = bs d := ⟨_, rfl⟩
  rw [← hs] at Hs ⊢
  have HS := Lib.hid hs
  clear hs hd
  have hss : s.size ≤ 1000000 := by rw [Hs.out]; exact hn
  go_enter Try.func78, Try.ntmps78
  go_wp2
  go_loopw [4] (fun t wr => ∃ k v : Nat, k ≤ s.size ∧ wr = w.iter s k ∧ t = .int .i64 v ∧ v = valOf (d.take k) ∧ v ≤ maxNum) (fun _ wr => s.size - wr.iterPos w.heap.size)
  case atStart => exact ⟨0, 0, by omega, rfl, rfl, rfl, by unfold maxNum; omega⟩
  case round =>
    obtain ⟨k, v, hk, rfl, rfl, hv, hvm⟩ := hrel
    have Hv := Lib.hid hv
    clear hv
    by_cases hlt : k < s.size
    · have hkd : k < d.length := by rw [← Hs.out]; exact hlt
      have hdk := Hd.out d[k] (List.getElem_mem hkd)
      have hb : 48 ≤ d[k].toNat ∧ d[k].toNat ≤ 57 := by simpa [isDigit] using hdk
      have hsk : (s[k]'hlt).toNat = d[k].toNat := by
        have e := HS.out
        subst e
        rfl
      have hnext := fun ty => run_next_ascii (P := Try.prog) w s k ty hlt (by rw [hsk]; omega)
      obtain ⟨z, hz⟩ : ∃ z, z = d[k].toNat := ⟨_, rfl⟩
      rw [← hz] at hsk hb
      rw [hsk] at hnext
      obtain ⟨hb1, hb2⟩ := hb
      have HV : Hid (valOf (d.take (k + 1)) = v * 10 + (z - 48)) := Lib.hid (by
        rw [List.take_succ_eq_append_getElem hkd, valOf_snoc, ← Hv.out, ← hz])
      have Hle := Lib.hid (valOf_take_le d (k + 1))
      unfold maxNum at hvm
      clear hz hdk hsk
      by_cases hbig : 1125899906842624 < v * 10 + (z - 48)
      · have hbi : (1125899906842624 : Int) < 10 * (v : Int) + ((z : Int) - 48) := by omega
        go_wp2
        go_ret2
        refine ⟨?_, ((Below.refl _ w).alloc (Nat.le_refl _) _)⟩
        unfold numV
        rw [if_pos (by have := Hle.out; rw [HV.out] at this; unfold maxNum; omega)]
        rfl
      · have hbi : ¬ (1125899906842624 : Int) < 10 * (v : Int) + ((z : Int) - 48) := by omega
        go_wp2
        go_roundw
        case rel => exact ⟨k + 1, v * 10 + (z - 48), by omega, rfl, by congr 1; omega, HV.out.symm, by unfold maxNum; omega⟩
        case measure => simp; omega
    · obtain rfl : k = s.size := by omega
      have hnext := fun ty => run_next_end (P := Try.prog) w s s.size ty hlt
      go_wp2
      go_ret2
      refine ⟨?_, ((Below.refl _ w).alloc (Nat.le_refl _) _)⟩
      have e : v = valOf d := by
        rw [Hv.out, Hs.out, List.take_length]
      unfold numV
      rw [if_neg (by rw [← e]; omega), ← e]
      rfl

end

end Go.Proofs.Ytoicmoodhblflaa
