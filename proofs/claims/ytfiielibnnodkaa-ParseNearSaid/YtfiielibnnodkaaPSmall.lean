/-
  What the parser has at hand: its reader's box, the tokens ahead of it, the net so far. Its small steps.
  Conditions: none beyond each theorem's own.
-/
import Derived.Test.YtfiielibnnodkaaParseMath
import Derived.Test.YtfiielibnnodkaaMakeB
import Derived.Test.YtfiielibnnodkaaLexTokens
import Derived.Test.YtfiielibnnodkaaNetLook
namespace Go.Proofs.Ytfiielibnnodkaa
open Go.RowKit
set_option linter.unusedVariables false

def TokAt (w : World) (v : Value) (ts : List Tok) : Prop := RowAt 4 w v ts.length (ts.flatMap tokL)
theorem tokL_len (t : Tok) : (tokL t).length = 4 := rfl

/-- the reader in block R, over tokens and a map that lie below w0's end; more: other rows that are apart -/
def St (w0 w : World) (R : Nat) (vm vp vt : Value) (ts : List Tok) (ps : List Pl) (l : List (Tr × Value × Value × Value)) (more : List Row) : Prop :=
  ∃ vk, TokAt w0 vk ts ∧ AllOwn w0.heap.size w (boxRow R 77 [vk, vm, vp, vt] :: (netRows vp vt ps l ++ more)) ∧ Below w0.heap.size w0 w

section
variable {w0 w w' : World} {R : Nat} {vm vp vt : Value} {ts : List Tok} {ps : List Pl} {l : List (Tr × Value × Value × Value)} {more : List Row}

theorem St.go (h : St w0 w R vm vp vt ts ps l more) (hb : Below w.heap.size w w') : St w0 w' R vm vp vt ts ps l more := by
  obtain ⟨vk, h1, h2, h3⟩ := h
  exact ⟨vk, h1, h2.below hb, h3.trans (hb.mono h3.size)⟩
theorem St.lt (h : St w0 w R vm vp vt ts ps l more) : w0.heap.size ≤ R ∧ R < w.heap.size := by
  obtain ⟨vk, h1, h2, h3⟩ := h
  exact boxRow.lt (h2.own (boxRow R 77 [vk, vm, vp, vt]) (by simp))

/-- the reader's cells -/
structure RCells (w : World) (R : Nat) (vk vm vp vt : Value) : Prop where
  c0 : w.cell? ⟨R, 0, none⟩ = some vk
  c1 : w.cell? ⟨R, 1, none⟩ = some vm
  c2 : w.cell? ⟨R, 2, none⟩ = some vp
  c3 : w.cell? ⟨R, 3, none⟩ = some vt
  fz : ∀ j, w.frozen? ⟨R, j, none⟩ = false
  lt : R < w.heap.size

theorem St.cells (h : St w0 w R vm vp vt ts ps l more) (hg : Good ts) : ∃ a n c, RCells w R (.slice a n c) vm vp vt ∧ n = ts.length ∧ n ≤ c ∧ c ≤ 9223372036854775807 ∧ ∃ b off, a = some ⟨b, off, none⟩ ∧ b < w.heap.size ∧ b < w0.heap.size ∧
    w.cell? ⟨b, off, none⟩ = some (.int .u8 ((hd ts).kind : Int)) ∧ w.cell? ⟨b, off + 1, none⟩ = some (.string (bs (hd ts).text)) ∧ w.cell? ⟨b, off + 2, none⟩ = some (.int .i64 ((hd ts).num : Int)) ∧ w.cell? ⟨b, off + 3, none⟩ = some (.int .i64 ((hd ts).at_ : Int)) := by
  obtain ⟨vk, h1, h2, h3⟩ := h
  have hB := h2.own (boxRow R 77 [vk, vm, vp, vt]) (by simp)
  obtain ⟨r, e, _⟩ := hg.cons
  have hi : ts[0]? = some (hd ts) := by rw [e]; rfl
  have h1' := h1
  obtain ⟨_, a, c, rfl, q1, q2, _⟩ := h1
  obtain ⟨b, off, rfl, hb, hc⟩ := RowAt.elem tokL_len h1' hi
  refine ⟨_, _, _, ⟨boxRow.cell hB rfl, boxRow.cell hB rfl, boxRow.cell hB rfl, boxRow.cell hB rfl, boxRow.froz hB, (boxRow.lt hB).2⟩, rfl, q1, by unfold maxLen at q2; omega, b, off, rfl, Nat.lt_of_lt_of_le hb h3.size, hb, ?_, ?_, ?_, ?_⟩
  · rw [below_cells h3 b _ hb]; simpa using hc 0 _ rfl
  · rw [below_cells h3 b _ hb]; simpa using hc 1 _ rfl
  · rw [below_cells h3 b _ hb]; simpa using hc 2 _ rfl
  · rw [below_cells h3 b _ hb]; simpa using hc 3 _ rfl

/-- the token at hand is passed -/
theorem St.skip {n c b off : Nat} (h : St w0 w R vm vp vt ts ps l more) (hg : Good ts) (hC : w.cell? ⟨R, 0, none⟩ = some (.slice (some ⟨b, off, none⟩) n c)) :
    St w0 (w.setCell ⟨R, 0, none⟩ (.slice (some ⟨b, off + 4, none⟩) (n - 1) (c - 1))) R vm vp vt ts.tail ps l more := by
  obtain ⟨vk, h1, h2, h3⟩ := h
  have hB := h2.own (boxRow R 77 [vk, vm, vp, vt]) (by simp)
  have e : vk = .slice (some ⟨b, off, none⟩) n c := by
    have := boxRow.cell hB (j := 0) rfl
    rw [hC] at this; injection this with this; exact this.symm
  subst e
  obtain ⟨r, e, e2⟩ := hg.cons
  obtain ⟨q0, a', c', e', q1, q2, q3⟩ := h1
  injection e' with e1 e2' e3
  subst e3
  have hlen := tail_len hg
  obtain ⟨k1, k2⟩ := AllOwn.store (pre := []) (b := R) (t := 77) (cs := [.slice (some ⟨b, off, none⟩) n c, vm, vp, vt]) (post := netRows vp vt ps l ++ more) h2 0 (.slice (some ⟨b, off + 4, none⟩) (n - 1) (c - 1))
  have hR := (boxRow.lt hB).1
  refine ⟨.slice (some ⟨b, off + 4, none⟩) (n - 1) (c - 1), ?_, k1, h3.trans (k2.below (fun k hk => by omega) h3.size)⟩
  refine ⟨flat_len tokL_len _, _, _, by rw [e2']; congr 1; omega, by omega, by omega, ?_⟩
  rcases q3 with q3 | ⟨b', off', e5, q4, q5⟩
  · omega
  · rw [← e1] at e5
    injection e5 with e5
    injection e5 with e6 e7 _
    subst e6 e7
    refine .inr ⟨b, off + 4, rfl, q4, fun j x hj => ?_⟩
    have := q5 (4 + j) x (by rw [e, ← e2] at *; rw [List.flatMap_cons, List.getElem?_append_right (by rw [tokL_len]; omega), tokL_len]; rw [e2]; simpa using hj)
    rw [Nat.add_assoc]; exact this

set_option maxRecDepth 100000 in
theorem next_any (h : St w0 w R vm vp vt ts ps l more) (hg : Good ts) :
    Calls Try.prog 35 #[.pointer (some ⟨R, 0, none⟩)] w fun e w' => e = .returned (tokV (hd ts)) ∧ Below w.heap.size w w' := by
  obtain ⟨a, n, c, hC, hn, hnc, hcm, b, off, rfl, hb, hb0, e0, e1, e2, e3⟩ := h.cells hg
  obtain ⟨c0, c1, c2, c3, fz, lt⟩ := hC
  have hlen := hg.len
  have hpos : (0 : Int) < (n : Int) := by omega
  clear h hg hn c1 c2 c3 hlen
  unfold tokV
  go_enter Try.func35, Try.ntmps35
  go_wp2
  exact bodyPost_ret (v := .agg #[.int .u8 ((hd ts).kind : Int), .string (bs (hd ts).text), .int .i64 ((hd ts).num : Int), .int .i64 ((hd ts).at_ : Int)]) (by simp [results, Try.results35, go_sem]) rfl ⟨rfl, (Below.refl _ w).alloc (Nat.le_refl _) _⟩

set_option maxRecDepth 100000 in
theorem skip_reader (h : St w0 w R vm vp vt ts ps l more) (hg : Good ts) (hg2 : Good ts.tail) :
    Calls Try.prog 85 #[.pointer (some ⟨R, 0, none⟩)] w fun e w' => e = .returned (.tuple #[]) ∧ St w0 w' R vm vp vt ts.tail ps l more := by
  obtain ⟨a, n, c, hC, hn, hnc, hcm, b, off, rfl, hb, hb0, e0, e1, e2, e3⟩ := h.cells hg
  obtain ⟨c0, c1, c2, c3, fz, lt⟩ := hC
  have fz0 := fz 0
  have hlen := hg.len
  have hlen2 := hg2.len
  have hlen3 := tail_len hg
  have hpos : 1 ≤ n := by omega
  have hpos2 : 1 < c := by omega
  have H := Lib.hid (St.skip h hg c0)
  clear h hg hg2 hlen2 hlen3 hn c1 c2 c3 hlen e0 e1 e2 e3 fz
  go_enter Try.func85, Try.ntmps85
  go_wp2
  go_end0
  exact ⟨rfl, H.out⟩

theorem Try.tok_kind (k : Int) (s : ByteArray) (n a : Int) (w : World) : (Instr.field 81 (.agg #[.int .u8 k, .string s, .int .i64 n, .int .i64 a]) 0).run Try.prog w = .ok (.int .u8 k) w := by kernel_rfl
theorem Try.tok_text (k : Int) (s : ByteArray) (n a : Int) (w : World) : (Instr.field 81 (.agg #[.int .u8 k, .string s, .int .i64 n, .int .i64 a]) 1).run Try.prog w = .ok (.string s) w := by kernel_rfl
theorem Try.tok_at (k : Int) (s : ByteArray) (n a : Int) (w : World) : (Instr.field 81 (.agg #[.int .u8 k, .string s, .int .i64 n, .int .i64 a]) 3).run Try.prog w = .ok (.int .i64 a) w := by kernel_rfl

theorem bs_eq (a b : List UInt8) : ((bs a).toList == (bs b).toList) = decide (a = b) := by
  rw [Lib.toList_data, Lib.toList_data, bs_data, bs_data]
  by_cases h : a = b <;> simp [h]

set_option maxRecDepth 100000 in
theorem pass_any (h : St w0 w R vm vp vt ts ps l more) (hg : Good ts) (s : List UInt8) (hs0 : s ≠ []) :
    Calls Try.prog 74 #[.pointer (some ⟨R, 0, none⟩), .string (bs s)] w fun e w' => e = .returned (.bool (decide ((hd ts).text = s))) ∧ St w0 w' R vm vp vt (if (hd ts).text = s then ts.tail else ts) ps l more := by
  have hnx := next_any h hg
  have hlt := h.lt.2
  have H := Lib.hid h
  have hq := bs_eq (hd ts).text s
  have Hg := Lib.hid hg
  clear h hg
  unfold tokV at hnx
  have hf := Try.tok_text ((hd ts).kind : Int) (bs (hd ts).text) ((hd ts).num : Int) ((hd ts).at_ : Int)
  by_cases hs : (hd ts).text = s
  · have Hg2 := Lib.hid (Hg.out.tailS hs0 hs)
    rw [decide_eq_true hs] at hq ⊢
    rw [if_pos hs]
    clear hs hs0
    go_enter Try.func74, Try.ntmps74
    go_wp2_with fail
    refine hnx.mono ?_
    rintro e w1 ⟨rfl, hb⟩
    have hsk := skip_reader (H.out.go hb) Hg.out Hg2.out
    clear hb hnx
    go_wp2_with fail
    refine hsk.mono ?_
    rintro e w2 ⟨rfl, hS⟩
    have HS := Lib.hid hS
    clear hS hsk
    go_wp2
    go_ret
    exact ⟨rfl, HS.out⟩
  · rw [decide_eq_false hs] at hq ⊢
    rw [if_neg hs]
    clear hs
    go_enter Try.func74, Try.ntmps74
    go_wp2_with fail
    refine hnx.mono ?_
    rintro e w1 ⟨rfl, hb⟩
    have HS := Lib.hid (H.out.go hb)
    clear hb hnx
    go_wp2
    go_ret
    exact ⟨rfl, HS.out⟩

set_option maxRecDepth 100000 in
theorem must_any (h : St w0 w R vm vp vt ts ps l more) (hg : Good ts) (s : List UInt8) (hs0 : s ≠ []) :
    Calls Try.prog 54 #[.pointer (some ⟨R, 0, none⟩), .string (bs s)] w fun e w' => e = .returned (.int .i64 (if (hd ts).text = s then 0 else 6)) ∧ St w0 w' R vm vp vt (if (hd ts).text = s then ts.tail else ts) ps l more := by
  have hp := pass_any h hg s hs0
  clear h
  by_cases hs : (hd ts).text = s
  · rw [decide_eq_true hs, if_pos hs] at hp
    rw [if_pos hs, if_pos hs]
    clear hs
    go_enter Try.func54, Try.ntmps54
    go_wp2_with fail
    refine hp.mono ?_
    rintro e w1 ⟨rfl, hS⟩
    have HS := Lib.hid hS
    clear hS hp
    go_wp2
    go_ret
    exact ⟨rfl, HS.out⟩
  · rw [decide_eq_false hs, if_neg hs] at hp
    rw [if_neg hs, if_neg hs]
    clear hs
    go_enter Try.func54, Try.ntmps54
    go_wp2_with fail
    refine hp.mono ?_
    rintro e w1 ⟨rfl, hS⟩
    have HS := Lib.hid hS
    clear hS hp
    go_wp2
    go_ret
    exact ⟨rfl, HS.out⟩
end
end Go.Proofs.Ytfiielibnnodkaa
