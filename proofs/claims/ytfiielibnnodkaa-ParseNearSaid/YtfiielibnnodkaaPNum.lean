/-
  The parser's numbers and names.
  Conditions: none beyond each theorem's own.
-/
import Derived.Test.YtfiielibnnodkaaPSmall
namespace Go.Proofs.Ytfiielibnnodkaa
open Go.RowKit
set_option linter.unusedVariables false

section
variable {w0 w w' : World} {R : Nat} {vm vp vt : Value} {ts : List Tok} {ps : List Pl} {l : List (Tr × Value × Value × Value)} {more : List Row}

/-- a new box beside -/
theorem St.box (h : St w0 w R vm vp vt ts ps l more) (cs : Array Value) (t : TypeId) : St w0 (w.alloc (.cells cs t)) R vm vp vt ts ps l (more ++ [boxRow w.heap.size t cs.toList]) := by
  obtain ⟨vk, h1, h2, h3⟩ := h
  have h4 := h2.add ((Below.refl _ w).alloc (Nat.le_refl _) _) (boxRow.new w0.heap.size w t cs h3.size) (fun k e => by injection e with e; subst e; exact Nat.le_refl _)
  refine ⟨vk, h1, ?_, h3.alloc h3.size _⟩
  simpa using h4
theorem St.drop {r : List Row} (h : St w0 w R vm vp vt ts ps l (more ++ r)) : St w0 w R vm vp vt ts ps l more := by
  obtain ⟨vk, h1, h2, h3⟩ := h
  refine ⟨vk, h1, h2.sub ?_, h3⟩
  rw [← List.append_assoc]
  exact List.Sublist.cons_cons _ (List.sublist_append_left _ _)
theorem St.mem {r : Row} (h : St w0 w R vm vp vt ts ps l more) (hr : r ∈ more) : r.own w0.heap.size w := by
  obtain ⟨vk, h1, h2, h3⟩ := h
  exact h2.own r (by simp [hr])

set_option maxRecDepth 100000 in
set_option maxHeartbeats 1000000 in
theorem number_reader (h : St w0 w R vm vp vt ts ps l more) (hg : Good ts) (s : List UInt8) (hs0 : s ≠ []) (least : Int) :
    Calls Try.prog 87 #[.pointer (some ⟨R, 0, none⟩), .string (bs s), .int .i64 least] w fun e w' => e = .returned (.tuple #[.int .i64 (numG s least ts).1, .int .i64 (numG s least ts).2.1]) ∧ St w0 w' R vm vp vt (numG s least ts).2.2 ps l more := by
  have hp := pass_any h hg s hs0
  unfold numG
  by_cases hs : (hd ts).text = s
  · have Hg2 := Lib.hid (hg.tailS hs0 hs)
    rw [decide_eq_true hs] at hp
    rw [if_pos hs] at hp ⊢
    clear hs hs0 h hg
    generalize ts.tail = us at hp Hg2 ⊢
    by_cases hk : (hd us).kind = 2
    · have hk2 : ((((hd us).kind : Nat) : Int) == 2) = true := by rw [hk]; rfl
      have Hg3 := Lib.hid (Hg2.out.tailK (by rw [hk]; decide))
      rw [if_neg (by rw [hk]; simp)]
      clear hk
      by_cases hn : ((hd us).num : Int) < least ∨ 1000000 < (hd us).num
      · rw [if_pos hn]
        have Hn := Lib.hid hn
        clear hn
        go_enter Try.func87, Try.ntmps87
        go_wp2_with fail
        refine hp.mono ?_
        rintro e w1 ⟨rfl, hS⟩
        have hnx := next_any hS Hg2.out
        have HS := Lib.hid hS
        unfold tokV at hnx
        clear hS hp
        go_wp2_with fail
        refine hnx.mono ?_
        rintro e w2 ⟨rfl, hb⟩
        have HS2 := Lib.hid ((HS.out.go hb).go ((Below.refl _ w2).alloc (Nat.le_refl _) (.cells #[.int .u8 ((hd us).kind : Int), .string (bs (hd us).text), .int .i64 ((hd us).num : Int), .int .i64 ((hd us).at_ : Int)] 81)))
        clear hb hnx
        by_cases h1 : ((hd us).num : Int) < least
        · go_wp2
          go_ret2
          exact ⟨rfl, HS2.out⟩
        · have h2 : (1000000 : Int) < ((hd us).num : Int) := by have := Hn.out; omega
          go_wp2
          go_ret2
          exact ⟨rfl, HS2.out⟩
      · rw [if_neg hn]
        have h1 : ¬ ((hd us).num : Int) < least := fun e => hn (.inl e)
        have h2 : ¬ (1000000 : Int) < ((hd us).num : Int) := fun e => hn (.inr (by omega))
        clear hn
        go_enter Try.func87, Try.ntmps87
        go_wp2_with fail
        refine hp.mono ?_
        rintro e w1 ⟨rfl, hS⟩
        have hnx := next_any hS Hg2.out
        have HS := Lib.hid hS
        unfold tokV at hnx
        clear hS hp
        go_wp2_with fail
        refine hnx.mono ?_
        rintro e w2 ⟨rfl, hb⟩
        have hS2 := ((HS.out.go hb).box #[.int .u8 ((hd us).kind : Int), .string (bs (hd us).text), .int .i64 ((hd us).num : Int), .int .i64 ((hd us).at_ : Int)] 81)
        have hsk := skip_reader hS2 Hg2.out Hg3.out
        clear hb hnx hS2
        go_wp2_with fail
        refine hsk.mono ?_
        rintro e w3 ⟨rfl, hS3⟩
        have hB := hS3.mem (r := boxRow w2.heap.size 81 [.int .u8 ((hd us).kind : Int), .string (bs (hd us).text), .int .i64 ((hd us).num : Int), .int .i64 ((hd us).at_ : Int)]) (by simp)
        have c2 := boxRow.cell hB (j := 2) rfl
        have lt := (boxRow.lt hB).2
        have HS3 := Lib.hid hS3.drop
        clear hB hS3 hsk
        go_wp2
        go_ret2
        exact ⟨rfl, HS3.out⟩
    · have hk2 : ((((hd us).kind : Nat) : Int) == 2) = false := by simp; omega
      rw [if_pos hk]
      go_enter Try.func87, Try.ntmps87
      go_wp2_with fail
      refine hp.mono ?_
      rintro e w1 ⟨rfl, hS⟩
      have hnx := next_any hS Hg2.out
      have HS := Lib.hid hS
      unfold tokV at hnx
      clear hS hp
      go_wp2_with fail
      refine hnx.mono ?_
      rintro e w2 ⟨rfl, hb⟩
      have HS2 := Lib.hid ((HS.out.go hb).go ((Below.refl _ w2).alloc (Nat.le_refl _) (.cells #[.int .u8 ((hd us).kind : Int), .string (bs (hd us).text), .int .i64 ((hd us).num : Int), .int .i64 ((hd us).at_ : Int)] 81)))
      clear hb hnx
      go_wp2
      go_ret2
      exact ⟨rfl, HS2.out⟩
  · rw [decide_eq_false hs] at hp
    rw [if_neg hs] at hp ⊢
    clear hs hs0 h hg
    go_enter Try.func87, Try.ntmps87
    go_wp2_with fail
    refine hp.mono ?_
    rintro e w1 ⟨rfl, hS⟩
    have HS := Lib.hid hS
    clear hS hp
    go_wp2
    go_ret2
    exact ⟨rfl, HS.out⟩
end
end Go.Proofs.Ytfiielibnnodkaa
