/-
  The place of a text in a list, as the document's own parser looks for it.
  Conditions: none beyond each theorem's own.
-/
import Derived.Test.YtfiielibnnodkaaNetC
namespace Go.Proofs.Ytfiielibnnodkaa
open Go.RowKit
set_option linter.unusedVariables false

set_option maxRecDepth 100000 in
set_option maxHeartbeats 1000000 in
theorem plidx_any {w : World} {l : List ByteArray} {a : Option Addr} {n cap : Nat} {s : ByteArray} (hn : n = l.length) (h : StrsAt w (.slice a n cap) l) :
    Calls Try.prog 43 #[.slice a n cap, .string s] w fun e w' => e = .returned (.int .i64 (idxOf (fun x => sEq x s) l)) ∧ w' = w := by
  have hmax : n ≤ 9223372036854775807 := by have := RowAt.max h; omega
  have H := Lib.hid h
  have Hn := Lib.hid hn
  obtain ⟨q, hq⟩ : ∃ q, q = idxOf (fun x => sEq x s) l := ⟨_, rfl⟩
  rw [← hq]
  have Hq : Hid (q = idxFrom (fun x => sEq x s) l 0) := Lib.hid hq
  clear h hn hq
  go_enter Try.func43, Try.ntmps43
  go_wp2
  go_loop [5] (fun i => ∃ k : Nat, k ≤ n ∧ i = .int .i64 k ∧ Hid (q = idxFrom (fun x => sEq x s) l k)) (fun i => n - (intOf i).toNat)
  case atStart => exact ⟨0, by omega, rfl, Hq⟩
  case round =>
    obtain ⟨k, hk, rfl, Hk⟩ := hrel
    by_cases hlt : k < n
    · obtain ⟨x, hx⟩ := at_lt (l := l) (k := k) (by rw [← Hn.out]; exact hlt)
      have hlti : (k : Int) < (n : Int) := by omega
      obtain ⟨b, off, rfl, hbw, e0⟩ := StrsAt.at_ H.out hx
      have Hx := Lib.hid hx
      have hst := sEq_toList x s
      clear hx
      cases hf : sEq x s with
      | true =>
        rw [hf] at hst
        have Hr : Hid (q = (k : Int)) := Lib.hid (by rw [Hk.out]; exact idxFrom_yes Hx.out hf)
        clear hf
        go_wp2
        go_ret
        exact ⟨by rw [Hr.out]; rfl, rfl⟩
      | false =>
        rw [hf] at hst
        have Hr : Hid (q = idxFrom (fun x => sEq x s) l (k + 1)) := Lib.hid (by rw [Hk.out]; exact idxFrom_no Hx.out hf)
        clear hf
        go_wp2
        go_round
        case rel => exact ⟨k + 1, by omega, by go_num, Hr⟩
        case measure => simp [intOf]; omega
    · have hge : ¬ (k : Int) < (n : Int) := by omega
      have Hr : Hid (q = -1) := Lib.hid (by rw [Hk.out]; exact idxFrom_end _ _ _ (by rw [← Hn.out]; omega))
      go_wp2
      go_ret
      exact ⟨by rw [Hr.out]; rfl, rfl⟩
end Go.Proofs.Ytfiielibnnodkaa
