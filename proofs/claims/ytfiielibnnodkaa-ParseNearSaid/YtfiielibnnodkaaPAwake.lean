/-
  Texts are read by a way that can be gone through in full; the document's example, as the statements of layer 6 ask it first.
  Conditions: none.
-/
import Derived.Test.YtfiielibnnodkaaPNet
namespace Go.Proofs.Ytfiielibnnodkaa
open Go.RowKit
set_option linter.unusedVariables false

/-- the tokens of l, in so many steps at most -/
def lexF : Nat → Nat → List UInt8 → Except (Nat × Nat) (List Tok)
  | 0, p, l => .ok [⟨0, [], 0, p⟩]
  | k + 1, p, l =>
    match l with
    | [] => .ok [⟨0, [], 0, p⟩]
    | c :: r =>
      if isBlank c then lexF k (p + 1) r
      else if c.toNat = 35 then lexF k (p + 1 + (r.takeWhile (fun x => x.toNat != 10)).length) (r.dropWhile (fun x => x.toNat != 10))
      else if isSmall c then ahead ⟨1, c :: r.takeWhile isWordy, 0, p⟩ (lexF k (p + 1 + (r.takeWhile isWordy).length) (r.dropWhile isWordy))
      else if isDigit c then
        if maxNum < valOf (c :: r.takeWhile isDigit) then .error (3, p)
        else ahead ⟨2, c :: r.takeWhile isDigit, valOf (c :: r.takeWhile isDigit), p⟩ (lexF k (p + 1 + (r.takeWhile isDigit).length) (r.dropWhile isDigit))
      else if c.toNat = 45 ∧ (r.head?.map UInt8.toNat) = some 62 then ahead ⟨3, [45, 62], 0, p⟩ (lexF k (p + 2) r.tail)
      else if isSign c then ahead ⟨3, [c], 0, p⟩ (lexF k (p + 1) r)
      else .error (6, p)

theorem lexF_eq (k : Nat) : ∀ (p : Nat) (l : List UInt8), l.length ≤ k → lexF k p l = lexL p l := by
  induction k with
  | zero =>
    intro p l h
    have : l = [] := List.length_eq_zero_iff.1 (by omega)
    subst this
    rw [lex_nil]; rfl
  | succ k ih =>
    intro p l h
    cases l with
    | nil => rw [lex_nil]; rfl
    | cons c r =>
      simp only [List.length_cons] at h
      have h1 := (List.dropWhile_suffix (l := r) (fun x : UInt8 => x.toNat != 10)).length_le
      have h2 := (List.dropWhile_suffix (l := r) isWordy).length_le
      have h3 := (List.dropWhile_suffix (l := r) isDigit).length_le
      have h4 := tailLen (r := r)
      rw [lexL]
      simp only [lexF]
      rw [ih _ _ (by omega), ih _ _ (by omega), ih _ _ (by omega), ih _ _ (by omega), ih _ _ (by omega)]
      rfl

/-- what a text comes to -/
def parseF (l : List UInt8) : Except (Int × Nat) Nt :=
  match lexF l.length 0 l with
  | .error (e, p) => .error ((e : Int), p)
  | .ok ts => parseT ts
theorem parseF_eq (l : List UInt8) : parseL l = parseF l := by unfold parseL parseF; rw [lexF_eq l.length 0 l (Nat.le_refl _)]; cases lexL 0 l <;> rfl

/-- a slice of a constant string's bytes -/
theorem constBytes (w : World) (l : List UInt8) (f : Nat × Nat) (C : Array Value) (hC : C.toList = l.map (fun x => Value.int .u8 (zi x))) (e : TypeId) : BytesAt (w.alloc (.cells C e f)) (some ⟨w.heap.size, 0, none⟩) l.length l :=
  ⟨rfl, fun _ => ⟨_, _, rfl, by simp, fun i x hx => by
    rw [Nat.zero_add, cell_marked, ← Array.getElem?_toList, hC, List.getElem?_map, hx]
    rfl⟩⟩

def textA : List UInt8 := [112, 108, 97, 99, 101, 32, 112, 32, 61, 32, 49, 59, 32, 116, 114, 97, 110, 115, 32, 116, 32, 64, 50, 58, 32, 112, 32, 45, 62, 32, 112, 59]
def netP : Nt := ⟨[⟨bs [112], 1⟩], [⟨bs [116], 2, 0, [(0, 1)], [], [(0, 1)]⟩]⟩
theorem parseA : parseL textA = .ok netP := by rw [parseF_eq]; kernel_rfl

theorem netP_own {B : Nat} {w : World} {vp vt : Value} (h : NetOwn B w vp vt netP) : ∃ b c r d, vp = .slice (some ⟨b, 0, none⟩) 1 c ∧ vt = .slice (some ⟨r, 0, none⟩) 1 d ∧ r < w.heap.size ∧ w.cell? ⟨r, 1, none⟩ = some (.int .i64 2) := by
  obtain ⟨h1, l, h2, h3⟩ := h.at_
  obtain ⟨a, cap, e1⟩ := RowAt.len h1
  obtain ⟨a2, cap2, e2⟩ := RowAt.len h3.1
  have hl : l.length = 1 := by have := congrArg List.length h2; simpa [netP] using this
  subst e1 e2
  obtain ⟨b, off, e3, _, _, _⟩ := PlsAt.at_ (i := 0) h1 rfl
  obtain ⟨r, off2, a1, c1, a3, c3, a4, c4, e4, hr, _, k1, _⟩ := h3.at_ (i := 0) (t := ⟨bs [116], 2, 0, [(0, 1)], [], [(0, 1)]⟩) (by rw [h2]; rfl)
  obtain ⟨h1o, h2o⟩ : (∃ b c, (Value.slice a netP.places.length cap) = .slice (some ⟨b, 0, none⟩) 1 c) ∧ (∃ b c, (Value.slice a2 l.length cap2) = .slice (some ⟨b, 0, none⟩) 1 c) := by
    obtain ⟨l', hl', ho⟩ := h
    have o1 := ho.own (plRow (.slice a netP.places.length cap) netP.places) (by simp [netRows])
    have o2 := ho.own (trRow (.slice a2 l.length cap2) l') (by simp [netRows])
    have hl'' : l'.length = 1 := by have := congrArg List.length hl'; simpa [netP] using this
    obtain ⟨g1, c1, q1⟩ := Joins.ownsRow_form o1 (by simp [plRow, netP])
    obtain ⟨g2, c2, q2⟩ := Joins.ownsRow_form o2 (by simp [trRow, hl''])
    exact ⟨⟨g1, c1, q1⟩, g2, c2, by simp only [trRow] at q2; rw [q2, hl'']⟩
  obtain ⟨b5, c5, q5⟩ := h1o
  obtain ⟨b6, c6, q6⟩ := h2o
  refine ⟨b5, c5, b6, c6, q5, q6, ?_, ?_⟩
  · injection q6 with q6 _ _
    rw [e4] at q6
    injection q6 with q6
    injection q6 with q6 q7 _
    rw [← q6]; exact hr
  · injection q6 with q6 _ _
    rw [e4] at q6
    injection q6 with q6
    injection q6 with q6 q7 _
    rw [← q6]
    subst q7
    simpa using k1

set_option maxRecDepth 100000 in
set_option maxHeartbeats 2000000 in
theorem awake6 (w : World) : Calls Try.prog 14 #[] w fun e w' => e = .returned (.bool true) ∧ Below w.heap.size w w' := by
  have kc := Lib.run_convert_bytes_const (P := Try.prog) w 22 5 #[.int .u8 112, .int .u8 108, .int .u8 97, .int .u8 99, .int .u8 101, .int .u8 32, .int .u8 112, .int .u8 32, .int .u8 61, .int .u8 32, .int .u8 49, .int .u8 59, .int .u8 32, .int .u8 116, .int .u8 114, .int .u8 97, .int .u8 110, .int .u8 115, .int .u8 32, .int .u8 116, .int .u8 32, .int .u8 64, .int .u8 50, .int .u8 58, .int .u8 32, .int .u8 112, .int .u8 32, .int .u8 45, .int .u8 62, .int .u8 32, .int .u8 112, .int .u8 59] 32 32 Try.underlying22 Try.underlying5
  have hb0 : Below w.heap.size w (w.alloc (.cells #[.int .u8 112, .int .u8 108, .int .u8 97, .int .u8 99, .int .u8 101, .int .u8 32, .int .u8 112, .int .u8 32, .int .u8 61, .int .u8 32, .int .u8 49, .int .u8 59, .int .u8 32, .int .u8 116, .int .u8 114, .int .u8 97, .int .u8 110, .int .u8 115, .int .u8 32, .int .u8 116, .int .u8 32, .int .u8 64, .int .u8 50, .int .u8 58, .int .u8 32, .int .u8 112, .int .u8 32, .int .u8 45, .int .u8 62, .int .u8 32, .int .u8 112, .int .u8 59] 5 (32, 33))) := (Below.refl _ w).alloc (Nat.le_refl _) _
  have hB := constBytes w textA (32, 33) #[.int .u8 112, .int .u8 108, .int .u8 97, .int .u8 99, .int .u8 101, .int .u8 32, .int .u8 112, .int .u8 32, .int .u8 61, .int .u8 32, .int .u8 49, .int .u8 59, .int .u8 32, .int .u8 116, .int .u8 114, .int .u8 97, .int .u8 110, .int .u8 115, .int .u8 32, .int .u8 116, .int .u8 32, .int .u8 64, .int .u8 50, .int .u8 58, .int .u8 32, .int .u8 112, .int .u8 32, .int .u8 45, .int .u8 62, .int .u8 32, .int .u8 112, .int .u8 59] rfl 5
  have hnet := net_any hB 32 (by decide) (by decide)
  have Hb0 := Lib.hid hb0
  clear hb0 hB
  go_enter Try.func14, Try.ntmps14
  go_wp2_with fail
  refine hnet.mono ?_
  rintro e w1 ⟨v, rfl, hout, hb1⟩
  rcases hout with ⟨e, p, h1, _⟩ | ⟨n, vp, vt, h1, h2, rfl⟩
  · rw [parseA] at h1
    cases h1
  · rw [parseA] at h1
    injection h1 with h1
    subst h1
    obtain ⟨b, c, r, d, rfl, rfl, hr, hc⟩ := netP_own h2
    have Hb := Lib.hid (Hb0.out.trans (hb1.mono (by simp)))
    clear hnet h2 hb1 kc
    simp only [faultV]
    go_wp2
    go_ret
    exact ⟨rfl, (Hb.out.alloc Hb.out.size _).alloc (by have := Hb.out.size; simp; omega) _⟩

end Go.Proofs.Ytfiielibnnodkaa
