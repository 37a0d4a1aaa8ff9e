/-
  The walk of the law LexTokens: for all bytes it returns true.
  Conditions: none beyond the theorem's own.
-/
import Derived.Test.YtohfdakagppgmaaRTokens
import Derived.Test.YtohfdakagppgmaaLexAwake
import Derived.Test.YtohfdakagppgmaaBytesIn
namespace Go.Proofs.Ytohfdakagppgmaa
open Go.RowKit
set_option linter.unusedVariables false

/-- no more tokens than bytes, and the end -/
theorem lex_count : ∀ (n : Nat) (l : List UInt8) (p : Nat) (ts : List Tok), l.length ≤ n → lexL p l = .ok ts → ts.length ≤ l.length + 1 := by
  intro n
  induction n with
  | zero =>
    intro l p ts hl h
    have : l = [] := List.eq_nil_of_length_eq_zero (by omega)
    subst this
    rw [lex_nil] at h
    injection h with h
    subst h
    simp
  | succ n ih =>
    intro l p ts hl h
    cases l with
    | nil =>
      rw [lex_nil] at h
      injection h with h
      subst h
      simp
    | cons c r =>
      have hr : r.length ≤ n := by simpa using hl
      have dr : ∀ P : UInt8 → Bool, (r.dropWhile P).length ≤ r.length := fun P => (List.dropWhile_suffix (l := r) P).length_le
      have dl : ∀ P : UInt8 → Bool, (r.dropWhile P).length ≤ n := fun P => Nat.le_trans (dr P) hr
      by_cases h1 : isBlank c = true
      · rw [lex_blank p c r h1] at h
        have := ih r _ ts hr h
        simp; omega
      by_cases h2 : c.toNat = 35
      · rw [lex_hash p c r h2] at h
        have := ih _ _ ts (dl _) h
        have := dr (fun x => x.toNat != 10)
        simp; omega
      by_cases h3 : isSmall c = true
      · rw [lex_word p c r h3] at h
        obtain ⟨us, e1, rfl⟩ := ahead_ok h
        have := ih _ _ us (dl _) e1
        have := dr isWordy
        simp; omega
      by_cases h4 : isDigit c = true
      · rw [lex_num p c r h4] at h
        split at h
        · cases h
        · obtain ⟨us, e1, rfl⟩ := ahead_ok h
          have := ih _ _ us (dl _) e1
          have := dr isDigit
          simp; omega
      by_cases h5 : c.toNat = 45 ∧ (r.head?.map UInt8.toNat) = some 62
      · cases r with
        | nil => simp at h5
        | cons x r =>
          rw [lex_arrow p c r h5.1 x (by simpa using h5.2)] at h
          obtain ⟨us, e1, rfl⟩ := ahead_ok h
          have := ih _ _ us (by simp at hr; omega) e1
          simp; omega
      by_cases h6 : isSign c = true
      · rw [lex_sign p c r h6] at h
        obtain ⟨us, e1, rfl⟩ := ahead_ok h
        have := ih _ _ us hr e1
        simp; omega
      · rw [lex_bad p c r (by simpa using h1) h2 (by simpa using h3) (by simpa using h4) h5 (by simpa using h6)] at h
        cases h

section
variable {w : World} {A : Option Addr} {n : Nat} {l : List UInt8}

set_option maxRecDepth 100000 in
set_option maxHeartbeats 4000000 in
theorem tokens_law (h : BytesAt w A n l) (c : Nat) (hc : n ≤ c) (hmax : n ≤ 9223372036854775807) :
    Calls Try.prog 3 #[.slice A n c] w fun e w' => e = .returned (.bool true) ∧ Below w.heap.size w w' := by
  have H := Lib.hid h
  clear h
  by_cases hbig : 300 < n
  · have hbi : (300 : Int) < (n : Int) := by omega
    go_enter Try.func3, Try.ntmps3
    go_wp2_with fail
    refine (awake_any _).mono ?_
    rintro e w1 ⟨rfl, hb1⟩
    have Hb1 := Lib.hid hb1
    clear hb1
    go_wp2_with fail
    refine (awake_any _).mono ?_
    rintro e w2 ⟨rfl, hb2⟩
    have Hb2 := Lib.hid (Hb1.out.trans (hb2.mono Hb1.out.size))
    clear hb2
    go_wp2
    go_ret
    exact ⟨rfl, Hb2.out⟩
  · have hbi : ¬ (300 : Int) < (n : Int) := by omega
    have hbd : decide ((300 : Int) < (n : Int)) = false := by simpa using hbi
    have hbd2 : decide (300 < n) = false := by simpa using hbig
    go_enter Try.func3, Try.ntmps3
    go_wp2_with fail
    refine (awake_any _).mono ?_
    rintro e w1 ⟨rfl, hb1⟩
    have ht := tokens_any (H.out.below hb1) c hc (by omega)
    have Hb1 := Lib.hid hb1
    clear hb1
    go_wp2_with fail
    refine ht.mono ?_
    rintro e w2 ⟨v, f, rfl, hout, hb2⟩
    have hb2w := Hb1.out.trans (hb2.mono Hb1.out.size)
    have Hb2 := Lib.hid hb2
    rcases hout with ⟨ts, h1, h2, rfl⟩ | ⟨er, p, h1, hp, rfl, rfl⟩
    · have Hts := Lib.hid h1
      have Hrow := Lib.hid h2
      obtain ⟨av, cv, hv⟩ := own_form h2
      subst hv
      obtain ⟨tn, htn⟩ : ∃ tn, tn = ts.length := ⟨_, rfl⟩
      have Htn := Lib.hid htn
      have htb : tn ≤ 301 := by
        have := lex_count l.length l 0 ts (Nat.le_refl _) h1
        rw [H.out.len] at this
        omega
      simp only [← htn] at Hrow ⊢
      simp only [faultV]
      have hb3 : Below w.heap.size w (w2.alloc (.cells #[.int .i64 0, .int .i64 0, .int .i64 0, .int .i64 0] 27)) := hb2w.alloc hb2w.size _
      have hr := rtokens_any (H.out.below hb3) c hc (by omega)
      have Hb3 := Lib.hid hb3
      clear hb2 hb2w h1 h2 htn hb3
      go_wp2_with fail
      refine hr.mono ?_
      rintro e w3 ⟨v', x, y, rfl, hout, hb4⟩
      rcases hout with ⟨ts', h1, h2, rfl, rfl⟩ | ⟨er, k, h1, _⟩
      · rw [Hts.out] at h1
        injection h1 with h1
        subst h1
        obtain ⟨av', cv', hv'⟩ := own_form h2
        subst hv'
        have Hrow' := Lib.hid h2
        simp only [← Htn.out] at Hrow' ⊢
        have Hb4 := Lib.hid (Hb3.out.trans (hb4.mono Hb3.out.size))
        have HrowN := Lib.hid (own_moves Hrow.out ((Below.refl _ w2).alloc (Nat.le_refl _) (.cells #[.int .i64 0, .int .i64 0, .int .i64 0, .int .i64 0] 27)))
        obtain ⟨⟨c0, c1, c2, c3⟩, ⟨f0, f1, f2, f3⟩, hlt5⟩ := new4 (heap_alloc_new w2 _) hb4
        have Hrow3 := Lib.hid (own_moves HrowN.out hb4)
        clear h2 hb4
        go_wp2
        go_loopw [10] (fun t wr => ∃ i q : Nat, i ≤ tn ∧ t = .int .i64 i ∧ wr = w3.drewN q) (fun t _ => tn - (intOf t).toNat)
        case atStart => exact ⟨0, 0, by omega, rfl, rfl⟩
        case round =>
          obtain ⟨i, q, hi, rfl, rfl⟩ := hrel
          by_cases hlt : i < tn
          · have hts : i < ts.length := by rw [← Htn.out]; exact hlt
            obtain ⟨t, ht⟩ : ∃ t, ts[i]? = some t := ⟨_, List.getElem?_eq_getElem hts⟩
            obtain ⟨r, cap, hv, hr, hcell⟩ := own_tok (by rw [← Htn.out]; exact Hrow3.out)
            obtain ⟨r', cap', hv', hr', hcell'⟩ := own_rtok (by rw [← Htn.out]; exact Hrow'.out)
            have hv := hv (by omega)
            have hv' := hv' (by omega)
            injection hv with g1 g2 g3
            injection hv' with g4 g5 g6
            subst g1; subst g3; subst g4; subst g6
            obtain ⟨a0, a1, a2, a3⟩ := hcell i t ht
            obtain ⟨b0, b1, b2, b3⟩ := hcell' i t ht
            obtain ⟨sv, hsv⟩ : ∃ sv, sv = bs t.text := ⟨_, rfl⟩
            rw [← hsv] at a1 b1
            have hii : (i : Int) < (tn : Int) := by omega
            clear hcell hcell' hr hr' ht hsv g2 g5 hts
            go_wp2
            go_quiet (fail)
            go_wp2
            go_roundw
            case rel => exact ⟨i + 1, q + nq, by omega, by go_num, rfl⟩
            case measure => simp [intOf]; omega
          · obtain rfl : tn = i := by omega
            go_wp2
            go_ret
            exact ⟨rfl, below_drews Hb4.out q⟩
      · rw [Hts.out] at h1
        cases h1
    · have HE := Lib.hid h1
      obtain ⟨⟨q1, q2⟩, hq⟩ : ∃ q, q = placeL (l.take p) := ⟨_, rfl⟩
      rw [← hq]
      have Hq := Lib.hid hq
      simp only [faultV]
      have hb3 : Below w.heap.size w (w2.alloc (.cells #[.int .i64 (er : Int), .int .i64 (p : Int), .int .i64 (q1 : Int), .int .i64 (q2 : Int)] 27)) := hb2w.alloc hb2w.size _
      have hr := rtokens_any (H.out.below hb3) c hc (by omega)
      have Hb3 := Lib.hid hb3
      have hpn : p ≤ n := by rw [H.out.len] at hp; exact hp
      clear hb2 hb2w h1 hq hb3 hp
      go_wp2_with fail
      refine hr.mono ?_
      rintro e w3 ⟨v', x, y, rfl, hout, hb4⟩
      rcases hout with ⟨ts', h1, _⟩ | ⟨er', p', h1, her, hp', rfl, rfl, rfl⟩
      · rw [HE.out] at h1
        cases h1
      · rw [HE.out] at h1
        injection h1 with h1
        injection h1 with h1 h1b
        subst h1; subst h1b
        have hne : ((er : Int) != 0) = true := by rcases her with e | e <;> rw [e] <;> rfl
        have Hb4 := Lib.hid (Hb3.out.trans (hb4.mono Hb3.out.size))
        obtain ⟨⟨c0, c1, c2, c3⟩, ⟨f0, f1, f2, f3⟩, hlt5⟩ := new4 (heap_alloc_new w2 _) hb4
        have hpl := rplace_any (H.out.below Hb4.out) c p hpn (by omega)
        rw [← Hq.out] at hpl
        clear hb4 her hp' hr
        go_wp2_with (first | (go_at_call 12; refine hpl.mono ?_; rintro e w4 ⟨rfl, rfl⟩))
        go_ret
        exact ⟨rfl, Hb4.out⟩

end

end Go.Proofs.Ytohfdakagppgmaa
