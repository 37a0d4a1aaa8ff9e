/-
  What Place and Fault of lex, and the document's own Place, come to: line and column behind the bytes ahead of a place.
  Conditions: texts of up to 1000000 bytes.
-/
import Derived.Test.YtoicmoodhblflaaLexSigns
namespace Go.Proofs.Ytoicmoodhblflaa
open Go.RowKit
set_option linter.unusedVariables false

/-- a place within a text of n bytes -/
def clampI (at_ : Int) (n : Nat) : Nat := min (max at_ 0).toNat n

section
variable {w : World} {A : Option Addr} {n : Nat} {l : List UInt8}

/-- 'p[:k]' -/
theorem clamp_eq (a : Int) (n : Nat) : min (max a 0) (n : Int) = (clampI a n : Nat) := by
  unfold clampI
  omega

set_option maxRecDepth 100000 in
theorem lastIndex_any (h : BytesAt w A n l) (c : Nat) (hn : n ≤ 9000000000000000000) :
    Calls Try.prog 85 #[.slice A n c, .int .u8 10] w fun e w' => ∃ k : Int, LastNl l k ∧ e = .returned (.int .i64 k) ∧ w = w' := by
  have hc := last_any h c hn
  clear h
  go_enter Try.func85, Try.ntmps85
  go_wp2_with (go_at_call 96; refine hc.mono ?_; rintro e w' ⟨k, hk, rfl, rfl⟩)
  go_ret
  exact ⟨k, hk, rfl, rfl⟩

set_option maxRecDepth 100000 in
set_option maxHeartbeats 1000000 in
theorem place_any (h : BytesAt w A n l) (c : Nat) (hc : n ≤ c) (hn : n ≤ 1000000) (at_ : Int) (h1 : -9223372036854775808 ≤ at_) (h2 : at_ ≤ 9223372036854775807) :
    Calls Try.prog 67 #[.slice A n c, .int .i64 at_] w fun e w' => e = .returned (.tuple #[.int .i64 (placeL (l.take (clampI at_ n))).1, .int .i64 (placeL (l.take (clampI at_ n))).2]) ∧ Below w.heap.size w w' := by
  have H := Lib.hid h
  obtain ⟨k, hk⟩ : ∃ k, k = clampI at_ n := ⟨_, rfl⟩
  rw [← hk]
  have hkn : k ≤ n := by rw [hk]; unfold clampI; omega
  have hmm : min (max at_ 0) (n : Int) = (k : Int) := by rw [hk]; exact clamp_eq at_ n
  obtain ⟨m, hm⟩ : ∃ m, m = l.take k := ⟨_, rfl⟩
  have hB := h.take k hkn
  rw [← hm] at hB ⊢
  have HB := Lib.hid hB
  have hml : m.length ≤ k := by rw [hm]; exact List.length_take_le _ _
  clear h hB hk hm
  have hct := count_any (HB.out.below ((Below.refl _ w).alloc (Nat.le_refl _) (.cells #[.int .u8 10] 5))) c w.heap.size 0 1 (by rw [cell_marked]; rfl)
  have hla := lastIndex_any (HB.out.below ((Below.refl _ w).alloc (Nat.le_refl _) (.cells #[.int .u8 10] 5))) c (by omega)
  obtain ⟨q, hq⟩ : ∃ q, q = Lib.countByte m 10 := ⟨_, rfl⟩
  have hq2 := placeL_line m
  have hbd := placeL_bd m
  rw [← hq] at hq2 hct
  have HQ := Lib.hid hq2
  have hq3 : q ≤ k := by omega
  clear hq hq2 hbd
  go_enter Try.func67, Try.ntmps67
  go_wp2_with (first | (go_at_call 84; refine hct.mono ?_; rintro e w' ⟨rfl, rfl⟩) | (go_at_call 85; refine hla.mono ?_; rintro e w' ⟨j, hj, rfl, rfl⟩; have hj1 := hj.bd.1; have hj2 := hj.bd.2; have Hj := Lib.hid hj; clear hj))
  go_ret2
  refine ⟨?_, (Below.refl _ w).alloc (Nat.le_refl _) _⟩
  have e1 : ((placeL m).1 : Int) = (q : Int) + 1 := by rw [HQ.out]; omega
  have e2 : ((placeL m).2 : Int) = (k : Int) - j := by rw [Hj.out.col, HB.out.len]
  rw [e1, e2]
  rfl

/-- a struct of four cells that was made, behind calls that make memory -/
theorem new4 {W w' : World} {g : Nat} {x0 x1 x2 x3 : Value} {t : TypeId} (hg : W.heap[g]? = some (.cells #[x0, x1, x2, x3] t)) (hb : Below W.heap.size W w') :
    (w'.cell? ⟨g, 0, none⟩ = some x0 ∧ w'.cell? ⟨g, 1, none⟩ = some x1 ∧ w'.cell? ⟨g, 2, none⟩ = some x2 ∧ w'.cell? ⟨g, 3, none⟩ = some x3) ∧
    (w'.frozen? ⟨g, 0, none⟩ = false ∧ w'.frozen? ⟨g, 1, none⟩ = false ∧ w'.frozen? ⟨g, 2, none⟩ = false ∧ w'.frozen? ⟨g, 3, none⟩ = false) ∧ g < w'.heap.size := by
  have hlt : g < W.heap.size := (Array.getElem?_eq_some_iff.1 hg).1
  have h2 := (hb.block g hlt).trans hg
  have hc := fun i => cell_of_row w' g i _ _ (0, 0) h2
  refine ⟨⟨hc 0, hc 1, hc 2, hc 3⟩, ?_, by have := hb.size; omega⟩
  refine ⟨?_, ?_, ?_, ?_⟩ <;> simp [World.frozen?, h2]

/-- a fault as a struct -/
def faultV (e p : Int) (q : Nat × Nat) : Value := .agg #[.int .i64 e, .int .i64 p, .int .i64 q.1, .int .i64 q.2]

set_option maxRecDepth 100000 in
set_option maxHeartbeats 1000000 in
theorem fault_any (h : BytesAt w A n l) (c : Nat) (hc : n ≤ c) (hn : n ≤ 1000000) (er at_ : Int) (h1 : -9223372036854775808 ≤ at_) (h2 : at_ ≤ 9223372036854775807) :
    Calls Try.prog 43 #[.slice A n c, .int .i64 er, .int .i64 at_] w fun e w' => e = .returned (faultV er at_ (placeL (l.take (clampI at_ n)))) ∧ Below w.heap.size w w' := by
  have hp := place_any (h.below ((Below.refl _ w).alloc (Nat.le_refl _) (.cells #[.int .i64 0, .int .i64 0, .int .i64 0, .int .i64 0] 51))) c hc hn at_ h1 h2
  obtain ⟨⟨q1, q2⟩, hq⟩ : ∃ q, q = placeL (l.take (clampI at_ n)) := ⟨_, rfl⟩
  rw [← hq] at hp ⊢
  clear h hq
  go_enter Try.func43, Try.ntmps43
  go_wp2_with (go_at_call 67; refine hp.mono ?_; rintro e w' ⟨rfl, hb⟩; obtain ⟨⟨c0, c1, c2, c3⟩, ⟨f0, f1, f2, f3⟩, hlt⟩ := new4 (heap_alloc_new w _) hb; have Hb := Lib.hid hb; clear hb)
  exact bodyPost_ret (v := faultV er at_ (q1, q2)) (by simp [results, Try.results43, go_sem, faultV, c0, c1, c2, c3]) rfl ⟨rfl, (((((((Below.refl _ w).alloc (Nat.le_refl _) _).trans (Hb.out.mono (by simp))).setCell (by simp) _).setCell (by simp) _).setCell (by simp) _).setCell (by simp) _)⟩

set_option maxRecDepth 100000 in
set_option maxHeartbeats 1000000 in
theorem rplace_any (h : BytesAt w A n l) (c : Nat) (k : Nat) (hk : k ≤ n) (hn : n ≤ 1000000) :
    Calls Try.prog 37 #[.slice A n c, .int .i64 k] w fun e w' => e = .returned (.tuple #[.int .i64 (placeL (l.take k)).1, .int .i64 (placeL (l.take k)).2]) ∧ w = w' := by
  have H := Lib.hid h
  clear h
  go_enter Try.func37, Try.ntmps37
  go_wp2
  go_loop [6, 7, 8] (fun a b t => ∃ i : Nat, ∃ q : Nat × Nat, i ≤ k ∧ t = .int .i64 i ∧ a = .int .i64 q.1 ∧ b = .int .i64 q.2 ∧ q = placeL (l.take i)) (fun _ _ t => k - (intOf t).toNat)
  case atStart => exact ⟨0, (1, 1), by omega, rfl, rfl, rfl, by simp [placeL]⟩
  case round =>
    obtain ⟨i, ⟨q1, q2⟩, hi, rfl, rfl, rfl, hq⟩ := hrel
    have hbd := placeL_bd (l.take i)
    rw [← hq] at hbd
    have hlt : (l.take i).length ≤ i := List.length_take_le _ _
    obtain ⟨b1, b2, b3, b4⟩ := hbd
    simp only at b1 b2 b3 b4
    have Hq := Lib.hid hq
    clear hq
    by_cases hik : i < k
    · obtain ⟨b, off, x, hA, hb, hx, hd, hc⟩ := H.out.at_ (k := i) (by omega)
      subst hA
      have HS : Hid (placeL (l.take (i + 1)) = if x.toNat = 10 then (q1 + 1, 1) else (q1, q2 + 1)) := Lib.hid (by
        rw [List.take_add_one, hx]
        simp only [Option.toList]
        rw [placeL_snoc, ← Hq.out])
      obtain ⟨z, hz⟩ : ∃ z, z = zi x := ⟨_, rfl⟩
      rw [← hz] at hc
      have Hz := Lib.hid hz
      have hin : (i : Int) < (n : Int) := by omega
      have hin2 : i < n := by omega
      clear hz hd hx
      by_cases hten : z = 10
      · subst hten
        have ht : Hid (x.toNat = 10) := Lib.hid (by have := Hz.out; unfold zi at this; omega)
        go_wp2
        go_round
        case rel => exact ⟨i + 1, (q1 + 1, 1), by omega, by go_num, by go_num, rfl, by rw [HS.out, if_pos ht.out]⟩
        case measure => simp [intOf]; omega
      · have hb1 : (z == 10) = false := by simpa using hten
        have ht : Hid (¬ x.toNat = 10) := Lib.hid (fun e => hten (by rw [Hz.out]; unfold zi; omega))
        go_wp2
        go_round
        case rel => exact ⟨i + 1, (q1, q2 + 1), by omega, by go_num, rfl, by go_num, by rw [HS.out, if_neg ht.out]⟩
        case measure => simp [intOf]; omega
    · obtain rfl : k = i := by omega
      go_wp2
      go_ret2
      exact ⟨by rw [← Hq.out]; rfl, rfl⟩

end

end Go.Proofs.Ytoicmoodhblflaa
