/-
  What skip of lex comes to: the place of the next byte that is neither blank nor in a comment; the tokens from there on are those from here on.
  Conditions: texts of up to 1000000 bytes.
-/
import Derived.Test.YtoicmoodhblflaaLexPlace
namespace Go.Proofs.Ytoicmoodhblflaa
open Go.RowKit
set_option linter.unusedVariables false

/-- neither blank nor a comment's first byte -/
def bareB (x : UInt8) : Bool := !isBlank x && !(x.toNat == 35)

/-- where skip stops -/
structure Skipped (l : List UInt8) (at_ k : Nat) : Prop where
  ge : at_ ≤ k
  le : k ≤ l.length
  same : lexL at_ (l.drop at_) = lexL k (l.drop k)
  bare : ∀ x, l[k]? = some x → bareB x = true

section
variable {w : World} {A : Option Addr} {n : Nat} {l : List UInt8}

theorem zi_eq {x : UInt8} {m : Nat} (h : zi x = (m : Int)) : x.toNat = m := by unfold zi at h; omega

theorem blank_of {x : UInt8} {m : Nat} (h : zi x = (m : Int)) (hm : m = 32 ∨ m = 9 ∨ m = 13 ∨ m = 10) : isBlank x = true := by
  have := zi_eq h
  unfold isBlank
  simp
  omega

set_option maxRecDepth 100000 in
set_option maxHeartbeats 2000000 in
theorem skip_any (h : BytesAt w A n l) (c : Nat) (hc : n ≤ c) (hn : n ≤ 1000000) (a : Nat) (ha : a ≤ n) :
    Calls Try.prog 63 #[.slice A n c, .int .i64 a] w fun e w' => ∃ k : Nat, Skipped l a k ∧ e = .returned (.int .i64 k) ∧ w = w' := by
  have H := Lib.hid h
  clear h
  go_enter Try.func63, Try.ntmps63
  go_wp2
  go_loop [1] (fun t => ∃ k : Nat, a ≤ k ∧ k ≤ n ∧ t = .int .i64 k ∧ lexL a (l.drop a) = lexL k (l.drop k)) (fun t => n - (intOf t).toNat)
  case atStart => exact ⟨a, by omega, ha, rfl, rfl⟩
  case round =>
    obtain ⟨k, hak, hkn, rfl, hsame⟩ := hrel
    have HS := Lib.hid hsame
    clear hsame
    by_cases hlt : k < n
    · obtain ⟨b, off, x, hA, hb, hx, hd, hce⟩ := H.out.at_ hlt
      subst hA
      obtain ⟨z, hz⟩ : ∃ z, z = zi x := ⟨_, rfl⟩
      rw [← hz] at hce
      have Hz := Lib.hid hz
      have Hd := Lib.hid hd
      have Hx := Lib.hid hx
      clear hz hd hx
      have hlti : (k : Int) < (n : Int) := by omega
      by_cases hblank : z = 32 ∨ z = 9 ∨ z = 13 ∨ z = 10
      · have HB : Hid (lexL a (l.drop a) = lexL (k + 1) (l.drop (k + 1))) := Lib.hid (by
          rw [HS.out, Hd.out, lex_blank k x _ ?_]
          rcases hblank with e | e | e | e <;> rw [Hz.out] at e
          · exact blank_of (m := 32) e (by omega)
          · exact blank_of (m := 9) e (by omega)
          · exact blank_of (m := 13) e (by omega)
          · exact blank_of (m := 10) e (by omega))
        rcases hblank with rfl | rfl | rfl | rfl
        all_goals
          go_wp2
          go_round
          case rel => exact ⟨k + 1, by omega, by omega, by go_num, HB.out⟩
          case measure => simp [intOf]; omega
      · have n1 : (z == 32) = false := by simp; omega
        have n2 : (z == 9) = false := by simp; omega
        have n3 : (z == 13) = false := by simp; omega
        have n4 : (z == 10) = false := by simp; omega
        by_cases hh : z = 35
        · subst hh
          have hx35 : Hid (x.toNat = 35) := Lib.hid (zi_eq (m := 35) Hz.out.symm)
          have hix := index_any (H.out.drop k (by omega)) (c - k)
          obtain ⟨q, hq⟩ : ∃ q, q = Lib.indexByte (l.drop k) 10 := ⟨_, rfl⟩
          rw [← hq] at hix
          have Hq := Lib.hid hq
          clear hq hblank
          have hck : ¬ c = k := by omega
          have hck2 : k < c := by omega
          by_cases hneg : q < 0
          · have HE : Hid (lexL a (l.drop a) = lexL n (l.drop n)) := Lib.hid (by
              have h1 := Lib.indexByte_ge (l.drop k) 10
              rw [HS.out, lex_hash_none k _ x _ Hd.out hx35.out (by rw [← Hq.out] at h1 ⊢; omega), List.length_drop, H.out.len, List.drop_of_length_le (by rw [H.out.len]; omega)]
              congr 1
              omega)
            go_wp2_with (go_at_call 75; refine hix.mono ?_; rintro e w' ⟨rfl, rfl⟩)
            go_ret
            exact ⟨n, ⟨by omega, by rw [H.out.len]; omega, HE.out, fun y hy => by
              rw [List.getElem?_eq_none (by rw [H.out.len]; omega)] at hy
              cases hy⟩, rfl, rfl⟩
          · obtain ⟨j, rfl⟩ := Int.eq_ofNat_of_zero_le (show 0 ≤ q by omega)
            obtain ⟨e1, e2, e3⟩ := lex_hash_some k _ x _ Hd.out hx35.out j Hq.out.symm
            have HE : Hid (lexL a (l.drop a) = lexL (k + j) (l.drop (k + j))) := Lib.hid (by rw [HS.out, e1, List.drop_drop])
            rw [List.length_drop, H.out.len] at e3
            clear e1
            go_wp2_with (go_at_call 75; refine hix.mono ?_; rintro e w' ⟨rfl, rfl⟩)
            go_round
            case rel => exact ⟨k + j, by omega, by omega, by go_num, HE.out⟩
            case measure => simp [intOf]; omega
        · have n5 : (z == 35) = false := by simp; omega
          have HE : Hid (bareB x = true) := Lib.hid (by
            have e := Hz.out
            unfold zi at e
            unfold bareB isBlank
            simp
            omega)
          clear hblank
          go_wp2_with fail
          go_ret
          exact ⟨k, ⟨hak, by rw [H.out.len]; omega, HS.out, fun y hy => by
            rw [Hx.out] at hy
            injection hy with hy
            subst hy
            exact HE.out⟩, rfl, rfl⟩
    · obtain rfl : n = k := by omega
      go_wp2
      go_ret
      exact ⟨n, ⟨hak, by rw [H.out.len]; omega, HS.out, fun y hy => by
        rw [List.getElem?_eq_none (by rw [H.out.len]; omega)] at hy
        cases hy⟩, rfl, rfl⟩

end

end Go.Proofs.Ytoicmoodhblflaa
