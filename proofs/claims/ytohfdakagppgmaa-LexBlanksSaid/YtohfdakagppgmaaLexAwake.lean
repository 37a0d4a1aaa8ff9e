/-
  The document's example, as the statements of layer 4 ask it first: a->b has a word, a sign, a word and the end.
  Conditions: none.
-/
import Derived.Test.YtohfdakagppgmaaLexTokens
namespace Go.Proofs.Ytohfdakagppgmaa
open Go.RowKit
set_option linter.unusedVariables false

theorem lex_example : lexL 0 [97, 45, 62, 98] = .ok [⟨1, [97], 0, 0⟩, ⟨3, [45, 62], 0, 1⟩, ⟨1, [98], 0, 3⟩, ⟨0, [], 0, 4⟩] := by
  rw [lex_word 0 97 [45, 62, 98] (by decide)]
  have e1 : ([45, 62, 98] : List UInt8).takeWhile isWordy = [] := by decide
  have e2 : ([45, 62, 98] : List UInt8).dropWhile isWordy = [45, 62, 98] := by decide
  rw [e1, e2, lex_arrow _ 45 [98] (by decide) 62 (by decide), lex_word _ 98 [] (by decide)]
  have e3 : ([] : List UInt8).takeWhile isWordy = [] := rfl
  have e4 : ([] : List UInt8).dropWhile isWordy = [] := rfl
  rw [e3, e4, lex_nil]
  rfl

/-- a slice of a constant string's bytes -/
theorem const_bytes (w : World) (l : List UInt8) (f : Nat × Nat) (C : Array Value) (hC : C.toList = l.map (fun x => Value.int .u8 (zi x))) (e : TypeId) : BytesAt (w.alloc (.cells C e f)) (some ⟨w.heap.size, 0, none⟩) l.length l :=
  ⟨rfl, fun _ => ⟨_, _, rfl, by simp, fun i x hx => by
    rw [Nat.zero_add, cell_marked, ← Array.getElem?_toList, hC, List.getElem?_map, hx]
    rfl⟩⟩

set_option maxRecDepth 100000 in
set_option maxHeartbeats 2000000 in
theorem awake_any (w : World) : Calls Try.prog 9 #[] w fun e w' => e = .returned (.bool true) ∧ Below w.heap.size w w' := by
  have kc := Lib.run_convert_bytes_const (P := Try.prog) w 22 5 #[.int .u8 97, .int .u8 45, .int .u8 62, .int .u8 98] 4 4 Try.underlying22 Try.underlying5
  have hb0 : Below w.heap.size w (w.alloc (.cells #[.int .u8 97, .int .u8 45, .int .u8 62, .int .u8 98] 5 (4, 5))) := (Below.refl _ w).alloc (Nat.le_refl _) _
  have hB := const_bytes w [97, 45, 62, 98] (4, 5) #[.int .u8 97, .int .u8 45, .int .u8 62, .int .u8 98] rfl 5
  have htk := tokens_any hB 4 (by decide) (by decide)
  have Hb0 := Lib.hid hb0
  clear hb0 hB
  go_enter Try.func9, Try.ntmps9
  go_wp2_with fail
  refine htk.mono ?_
  rintro e w1 ⟨v, f, rfl, hout, hb1⟩
  rcases hout with ⟨ts, h1, h2, rfl⟩ | ⟨e, p, h1, _⟩
  · rw [lex_example] at h1
    injection h1 with h1
    subst h1
    obtain ⟨r, cap, hv, hr, hcell⟩ := own_tok h2
    have hv := hv (by decide)
    obtain ⟨hr1, hr2⟩ := hr (by decide)
    subst hv
    have c1 := (hcell 1 _ rfl).2.1
    have c3 := (hcell 3 _ rfl).1
    have Hb := Lib.hid (Hb0.out.trans (hb1.mono (by simp)))
    clear hcell h2 hr hb1 hr1
    have c1 : w1.cell? ⟨r, 5, none⟩ = some (.string (bs [45, 62])) := c1
    have c3 : w1.cell? ⟨r, 12, none⟩ = some (.int .u8 0) := c3
    have ht := bs_toList [45, 62]
    simp only [faultV]
    go_wp2
    go_ret
    exact ⟨rfl, Hb.out.alloc Hb.out.size _⟩
  · rw [lex_example] at h1
    cases h1

end Go.Proofs.Ytohfdakagppgmaa
