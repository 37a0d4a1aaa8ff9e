/-
  What read of lex comes to: one token, or what is wrong there.
  Conditions: texts of up to 1000000 bytes.
-/
import Derived.Test.YtoicmoodhblflaaLexRun
namespace Go.Proofs.Ytoicmoodhblflaa
open Go.RowKit
set_option linter.unusedVariables false

/-- a token as a struct -/
def tokV (t : Tok) : Value := .agg #[.int .u8 (t.kind : Int), .string (bs t.text), .int .i64 (t.num : Int), .int .i64 (t.at_ : Int)]

/-- what read answers -/
def readV (r : Except Nat Tok) : Value :=
  match r with
  | .ok t => .tuple #[tokV t, .int .i64 0]
  | .error e => .tuple #[tokV ⟨0, [], 0, 0⟩, .int .i64 (e : Int)]

/-- the world with a struct of a token in it -/
abbrev tokNew (w : World) : World := w.alloc (.cells #[.int .u8 0, .string { data := #[] }, .int .i64 0, .int .i64 0] 91)

section
variable {w : World} {n : Nat} {l : List UInt8}

theorem take_small {x : UInt8} {r : List UInt8} (h : isSmall x = true) : (x :: r).takeWhile isWordy = x :: r.takeWhile isWordy := by
  have : isWordy x = true := by simp [isWordy, h]
  simp [this]

theorem take_digit {x : UInt8} {r : List UInt8} (h : isDigit x = true) : (x :: r).takeWhile isDigit = x :: r.takeWhile isDigit := by
  simp [h]

set_option maxRecDepth 100000 in
set_option maxHeartbeats 4000000 in
theorem read_any {b off : Nat} (h : BytesAt w (some ⟨b, off, none⟩) n l) (c : Nat) (hc : n ≤ c) (hn : n ≤ 1000000) (a : Nat) (ha : a < n) (x : UInt8) (r : List UInt8) (hx : l.drop a = x :: r) :
    Calls Try.prog 64 #[.slice (some ⟨b, off, none⟩) n c, .int .i64 a] w fun e w' => e = .returned (readV (readL a x r)) ∧ Below w.heap.size w w' := by
  have hN := h.below ((Below.refl _ w).alloc (Nat.le_refl _) (.cells #[.int .u8 0, .string { data := #[] }, .int .i64 0, .int .i64 0] 91))
  obtain ⟨b', off', x', hA, hb, hx2, hd, hce⟩ := hN.at_ ha
  injection hA with hA
  injection hA with e1 e2
  subst e1; subst e2
  rw [hx] at hd
  injection hd with e1 e2
  subst e1
  have hD := hN.drop a (by omega)
  rw [hx] at hD
  have HD := Lib.hid hD
  obtain ⟨z, hz⟩ : ∃ z, z = zi x := ⟨_, rfl⟩
  rw [← hz] at hce
  obtain ⟨z0, z1⟩ := zi_bd x
  rw [← hz] at z0 z1
  have Hz := Lib.hid hz
  have hac : ¬ c = a := by omega
  have hac2 : a < c := by omega
  clear h hN hx hx2 hb hz hD e2
  have HR : Hid (readL a x r = if isSmall x then .ok ⟨1, x :: r.takeWhile isWordy, 0, a⟩
    else if isDigit x then
      if maxNum < valOf (x :: r.takeWhile isDigit) then .error 3 else .ok ⟨2, x :: r.takeWhile isDigit, valOf (x :: r.takeWhile isDigit), a⟩
    else if isSign x then .ok ⟨3, [x], 0, a⟩
    else if x.toNat = 45 ∧ (r.head?.map UInt8.toNat) = some 62 then .ok ⟨3, [45, 62], 0, a⟩
    else .error 6) := Lib.hid rfl
  cases h1 : smallI z with
  | true =>
    have hs : isSmall x = true := by rw [← small_zi, ← Hz.out]; exact h1
    have hrun := run_word HD.out (c - a) (by omega) (by omega)
    rw [take_small hs] at hrun
    obtain ⟨sv, hsv⟩ : ∃ sv, sv = bs (x :: r.takeWhile isWordy) := ⟨_, rfl⟩
    rw [← hsv] at hrun
    have HE : Hid (readV (readL a x r) = .tuple #[.agg #[.int .u8 1, .string sv, .int .i64 0, .int .i64 (a : Int)], .int .i64 0]) := Lib.hid (by rw [HR.out, if_pos hs, hsv]; rfl)
    clear hs hsv
    go_enter Try.func64, Try.ntmps64
    go_wp2_with (first | (go_at_call 70; refine (letter_any _ _).mono ?_; rintro e w' ⟨rfl, rfl⟩) | (go_at_call 76; refine hrun.mono ?_; rintro e w' ⟨rfl, rfl⟩))
    exact bodyPost_ret (v := .tuple #[.agg #[.int .u8 1, .string sv, .int .i64 0, .int .i64 (a : Int)], .int .i64 0]) (by simp [results, Try.results64, go_sem]) rfl ⟨by rw [HE.out], (Below.refl _ w).alloc (Nat.le_refl _) _⟩
  | false =>
    have hs1 : Hid (¬ isSmall x = true) := Lib.hid (by rw [← small_zi, ← Hz.out, h1]; simp)
    cases h2 : digitI z with
    | true =>
      have hs : isDigit x = true := by rw [← digit_zi, ← Hz.out]; exact h2
      have hrun := run_digits HD.out (c - a) (by omega) (by omega)
      rw [take_digit hs] at hrun
      have hlen : (x :: r.takeWhile isDigit).length ≤ 1000000 := by
        have h3 := HD.out.len
        have h4 := (List.takeWhile_sublist (p := isDigit) (l := r)).length_le
        simp at h3 ⊢
        omega
      have hall : ∀ y ∈ x :: r.takeWhile isDigit, isDigit y = true := by
        intro y hy
        rcases List.mem_cons.1 hy with rfl | hy
        · exact hs
        · exact takeWhile_mem r y hy
      have hnum := number_any (x :: r.takeWhile isDigit) hall hlen (tokNew w)
      obtain ⟨sv, hsv⟩ : ∃ sv, sv = bs (x :: r.takeWhile isDigit) := ⟨_, rfl⟩
      obtain ⟨v, hv⟩ : ∃ v, v = valOf (x :: r.takeWhile isDigit) := ⟨_, rfl⟩
      rw [← hsv] at hrun hnum
      rw [← hv] at hnum
      by_cases hbig : maxNum < v
      · have HE : Hid (readV (readL a x r) = .tuple #[.agg #[.int .u8 0, .string { data := #[] }, .int .i64 0, .int .i64 0], .int .i64 3]) := Lib.hid (by rw [HR.out, if_neg hs1.out, if_pos hs, if_pos (by rw [← hv]; exact hbig)]; rfl)
        have e : numV v = .tuple #[.int .i64 0, .bool false] := by unfold numV; rw [if_pos hbig]
        rw [e] at hnum
        clear hs hsv hv hlen hall e hbig
        go_enter Try.func64, Try.ntmps64
        go_wp2_with (first | (go_at_call 70; refine (letter_any _ _).mono ?_; rintro e w' ⟨rfl, rfl⟩) | (go_at_call 77; refine (digit_any _ _).mono ?_; rintro e w' ⟨rfl, rfl⟩) | (go_at_call 76; refine hrun.mono ?_; rintro e w' ⟨rfl, rfl⟩) | (go_at_call 78; refine hnum.mono ?_; rintro e w' ⟨rfl, hb⟩; obtain ⟨⟨c0, c1, c2, c3⟩, ⟨f0, f1, f2, f3⟩, hlt⟩ := new4 (heap_alloc_new w _) hb; have Hb := Lib.hid hb; clear hb))
        exact bodyPost_ret (v := .tuple #[.agg #[.int .u8 0, .string { data := #[] }, .int .i64 0, .int .i64 0], .int .i64 3]) (by simp [results, Try.results64, go_sem, c0, c1, c2, c3]) rfl ⟨by rw [HE.out], (((((((Below.refl _ w).alloc (Nat.le_refl _) _).trans (Hb.out.mono (by simp))).setCell (by simp) _).setCell (by simp) _).setCell (by simp) _).setCell (by simp) _)⟩
      · have HE : Hid (readV (readL a x r) = .tuple #[.agg #[.int .u8 2, .string sv, .int .i64 (v : Int), .int .i64 (a : Int)], .int .i64 0]) := Lib.hid (by rw [HR.out, if_neg hs1.out, if_pos hs, if_neg (by rw [← hv]; exact hbig), hsv, hv]; rfl)
        have e : numV v = .tuple #[.int .i64 (v : Int), .bool true] := by unfold numV; rw [if_neg hbig]
        rw [e] at hnum
        clear hs hsv hv hlen hall e hbig
        go_enter Try.func64, Try.ntmps64
        go_wp2_with (first | (go_at_call 70; refine (letter_any _ _).mono ?_; rintro e w' ⟨rfl, rfl⟩) | (go_at_call 77; refine (digit_any _ _).mono ?_; rintro e w' ⟨rfl, rfl⟩) | (go_at_call 76; refine hrun.mono ?_; rintro e w' ⟨rfl, rfl⟩) | (go_at_call 78; refine hnum.mono ?_; rintro e w' ⟨rfl, hb⟩; obtain ⟨⟨c0, c1, c2, c3⟩, ⟨f0, f1, f2, f3⟩, hlt⟩ := new4 (heap_alloc_new w _) hb; have Hb := Lib.hid hb; clear hb))
        exact bodyPost_ret (v := .tuple #[.agg #[.int .u8 2, .string sv, .int .i64 (v : Int), .int .i64 (a : Int)], .int .i64 0]) (by simp [results, Try.results64, go_sem, c0, c1, c2, c3]) rfl ⟨by rw [HE.out], (((((((Below.refl _ w).alloc (Nat.le_refl _) _).trans (Hb.out.mono (by simp))).setCell (by simp) _).setCell (by simp) _).setCell (by simp) _).setCell (by simp) _)⟩
    | false =>
      have hs2 : Hid (¬ isDigit x = true) := Lib.hid (by rw [← digit_zi, ← Hz.out, h2]; simp)
      have hsg := signs_any z (tokNew w) z0 (by omega)
      cases h3 : signI z with
      | true =>
        have hs : isSign x = true := by rw [← sign_zi, ← Hz.out]; exact h3
        have he : Utf8.encode z = bs [x] := by
          have h128 : x.toNat < 128 := by
            have := hs
            simp [isSign] at this
            omega
          have hz2 : z.toNat = x.toNat := by rw [Hz.out]; unfold zi; omega
          have hv : Utf8.valid z = true := by rw [validRune_eq]; unfold validRune; exact decide_eq_true (.inl ⟨by omega, by omega⟩)
          unfold Utf8.encode
          simp only [hv, if_true]
          rw [if_pos (by omega)]
          rw [hz2]
          simp [bs]
        obtain ⟨sv, hsv⟩ : ∃ sv, sv = bs [x] := ⟨_, rfl⟩
        rw [← hsv] at he
        have HE : Hid (readV (readL a x r) = .tuple #[.agg #[.int .u8 3, .string sv, .int .i64 0, .int .i64 (a : Int)], .int .i64 0]) := Lib.hid (by rw [HR.out, if_neg hs1.out, if_neg hs2.out, if_pos hs, hsv]; rfl)
        rw [h3] at hsg
        clear hs hsv
        go_enter Try.func64, Try.ntmps64
        go_wp2_with (first | (go_at_call 70; refine (letter_any _ _).mono ?_; rintro e w' ⟨rfl, rfl⟩) | (go_at_call 77; refine (digit_any _ _).mono ?_; rintro e w' ⟨rfl, rfl⟩) | (go_at_call 79; refine hsg.mono ?_; rintro e w' ⟨rfl, q, rfl⟩))
        exact bodyPost_ret (v := .tuple #[.agg #[.int .u8 3, .string sv, .int .i64 0, .int .i64 (a : Int)], .int .i64 0]) (by simp [results, Try.results64, go_sem]) rfl ⟨by rw [HE.out], ((((below_drews ((Below.refl _ w).alloc (Nat.le_refl _) _) q).setCell (by simp) _).setCell (by simp) _).setCell (by simp) _).setCell (by simp) _⟩
      | false =>
        have hs3 : Hid (¬ isSign x = true) := Lib.hid (by rw [← sign_zi, ← Hz.out, h3]; simp)
        have kc : ∀ q, (convert 32 32 (.slice (some ⟨w.heap.size + 1, 0, none⟩) 2 2)).run Try.prog (((tokNew w).drewN q).alloc (.cells #[.int .u8 45, .int .u8 62] 5)) = .ok (.slice (some ⟨w.heap.size + 1, 0, none⟩) 2 2) (((tokNew w).drewN q).alloc (.cells #[.int .u8 45, .int .u8 62] 5 (2, 3))) := fun q => by
          have e := Lib.run_convert_bytes_const (P := Try.prog) ((tokNew w).drewN q) 32 5 #[.int .u8 45, .int .u8 62] 2 2 Try.underlying32 Try.underlying5
          have e2 : ((tokNew w).drewN q).heap.size = w.heap.size + 1 := by simp
          rw [e2] at e
          exact e
        have hpr := fun q => prefix_any (w := ((tokNew w).drewN q).alloc (.cells #[.int .u8 45, .int .u8 62] 5 (2, 3))) (B := some ⟨w.heap.size + 1, 0, none⟩) ((HD.out.drewN q).below ((Below.refl _ _).alloc (Nat.le_refl _) _)) ⟨rfl, fun _ => ⟨_, _, rfl, by simp, fun i y hy => by
          have e := cell_marked ((tokNew w).drewN q) #[.int .u8 45, .int .u8 62] 5 (2, 3) i
          have e2 : ((tokNew w).drewN q).heap.size = w.heap.size + 1 := by simp
          rw [e2] at e
          rw [Nat.zero_add, e]
          match i, hy with
          | 0, hy => simp at hy; subst hy; rfl
          | 1, hy => simp at hy; subst hy; rfl⟩⟩ (c - a) 2 (by omega)
        rw [h3] at hsg
        cases h4 : arrowB (x :: r) with
        | true =>
          have HE : Hid (readV (readL a x r) = .tuple #[.agg #[.int .u8 3, .string { data := #[45, 62] }, .int .i64 0, .int .i64 (a : Int)], .int .i64 0]) := Lib.hid (by
            rw [HR.out, if_neg hs1.out, if_neg hs2.out, if_neg hs3.out, if_pos]
            · rfl
            · have e := of_decide_eq_true h4
              cases r with
              | nil => simp at e
              | cons y r =>
                simp at e
                obtain ⟨rfl, rfl⟩ := e
                simp)
          rw [h4] at hpr
          go_enter Try.func64, Try.ntmps64
          go_wp2_with (first | (go_at_call 70; refine (letter_any _ _).mono ?_; rintro e w' ⟨rfl, rfl⟩) | (go_at_call 77; refine (digit_any _ _).mono ?_; rintro e w' ⟨rfl, rfl⟩) | (go_at_call 79; refine hsg.mono ?_; rintro e w' ⟨rfl, q, rfl⟩) | (go_at_call 80; refine (hpr _).mono ?_; rintro e w' ⟨rfl, rfl⟩))
          refine bodyPost_ret (v := .tuple #[.agg #[.int .u8 3, .string { data := #[45, 62] }, .int .i64 0, .int .i64 (a : Int)], .int .i64 0]) (by simp [results, Try.results64, go_sem]) rfl ⟨by rw [HE.out], ?_⟩
          refine Below.alloc ?_ (by simp) _
          exact ((((below_drews ((Below.refl _ w).alloc (Nat.le_refl _) _) q).setCell (by simp) _).setCell (by simp) _).setCell (by simp) _).setCell (by simp) _
        | false =>
          have HE : Hid (readV (readL a x r) = .tuple #[.agg #[.int .u8 0, .string { data := #[] }, .int .i64 0, .int .i64 0], .int .i64 6]) := Lib.hid (by
            rw [HR.out, if_neg hs1.out, if_neg hs2.out, if_neg hs3.out, if_neg]
            · rfl
            · rintro ⟨e1, e2⟩
              cases r with
              | nil => simp at e2
              | cons y r =>
                simp at e2
                have e3 : x = 45 := UInt8.toNat_inj.1 e1
                have e4 : y = 62 := UInt8.toNat_inj.1 e2
                subst e3; subst e4
                simp [arrowB] at h4)
          rw [h4] at hpr
          go_enter Try.func64, Try.ntmps64
          go_wp2_with (first | (go_at_call 70; refine (letter_any _ _).mono ?_; rintro e w' ⟨rfl, rfl⟩) | (go_at_call 77; refine (digit_any _ _).mono ?_; rintro e w' ⟨rfl, rfl⟩) | (go_at_call 79; refine hsg.mono ?_; rintro e w' ⟨rfl, q, rfl⟩) | (go_at_call 80; refine (hpr _).mono ?_; rintro e w' ⟨rfl, rfl⟩))
          refine bodyPost_ret (v := .tuple #[.agg #[.int .u8 0, .string { data := #[] }, .int .i64 0, .int .i64 0], .int .i64 6]) (by simp [results, Try.results64, go_sem]) rfl ⟨by rw [HE.out], ?_⟩
          refine Below.alloc ?_ (by simp) _
          exact ((((below_drews ((Below.refl _ w).alloc (Nat.le_refl _) _) q).setCell (by simp) _).setCell (by simp) _).setCell (by simp) _).setCell (by simp) _

end

end Go.Proofs.Ytoicmoodhblflaa
