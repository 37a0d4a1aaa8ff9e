/-
  The walk of the law LexNumbers: numbers up to the greatest one, and beyond.
  Conditions: none beyond the theorem's own.
-/
import Derived.Test.YtohfdakagppgmaaLexAwake
namespace Go.Proofs.Ytohfdakagppgmaa
open Go.RowKit
set_option linter.unusedVariables false

theorem k_of (a : Int) : ∃ K : Nat, K < 1125899906842627 ∧ wrap64 ((IntKind.u64.wrap a).tmod 1125899906842627) = (K : Int) := by
  have e : IntKind.u64.wrap a = a % 18446744073709551616 := by simp [IntKind.wrap, IntKind.bits, IntKind.signed]
  have h0 : 0 ≤ a % 18446744073709551616 := Int.emod_nonneg _ (by decide)
  rw [e, Int.tmod_eq_emod_of_nonneg h0]
  generalize a % 18446744073709551616 = y at h0
  refine ⟨(y % 1125899906842627).toNat, by omega, ?_⟩
  unfold wrap64
  omega

/-- j digits of K, the last ones -/
structure Digs (K j x : Nat) (ds : List UInt8) : Prop where
  few : j ≤ 16
  left : x = K / 10 ^ j
  len : ds.length = j
  dig : ∀ y ∈ ds, isDigit y = true
  val : valOf ds = K % 10 ^ j

theorem Digs.start (K : Nat) : Digs K 0 K [] := ⟨by omega, by simp, rfl, (fun _ h => by cases h), by simp [valOf]; omega⟩

theorem digit_of (d : Nat) (hd : d ≤ 9) : (UInt8.ofNat (48 + d)).toNat = 48 + d ∧ isDigit (UInt8.ofNat (48 + d)) = true := by
  have h : (UInt8.ofNat (48 + d)).toNat = 48 + d := by simp; omega
  refine ⟨h, ?_⟩
  unfold isDigit
  rw [h]
  exact decide_eq_true (by omega)

theorem Digs.next {K j x : Nat} {ds : List UInt8} (h : Digs K j x ds) (hK : K < 1125899906842627) (hp : 0 < x ∨ j = 0) : Digs K (j + 1) (x / 10) (UInt8.ofNat (48 + x % 10) :: ds) := by
  have hd := digit_of (x % 10) (by omega)
  refine ⟨?_, ?_, by simp [h.len], ?_, ?_⟩
  · rcases hp with hp | hp
    · by_cases hj : j < 16
      · omega
      · exfalso
        have h1 : 10 ^ 16 ≤ 10 ^ j := Nat.pow_le_pow_right (by omega) (by omega)
        have h2 := h.left
        rw [Nat.div_eq_of_lt (by omega)] at h2
        omega
    · omega
  · rw [h.left, Nat.div_div_eq_div_mul, Nat.pow_succ]
  · intro y hy
    rcases List.mem_cons.1 hy with rfl | hy
    · exact hd.2
    · exact h.dig y hy
  · rw [valOf_cons, hd.1, h.len, h.val, Nat.mod_pow_succ, h.left]
    rw [show 48 + K / 10 ^ j % 10 - 48 = K / 10 ^ j % 10 by omega, Nat.mul_comm]
    omega

theorem Digs.done {K j : Nat} {ds : List UInt8} (h : Digs K j 0 ds) : valOf ds = K := by
  have h1 := h.left
  have h2 : K < 10 ^ j := by
    rcases Nat.lt_or_ge K (10 ^ j) with h | h
    · exact h
    · have := Nat.div_pos h (Nat.pow_pos (by omega))
      omega
  rw [h.val, Nat.mod_eq_of_lt h2]

/-- is a string empty? -/
def emptyOf (v : Value) : Nat := match v with | .string s => if s.size = 0 then 1 else 0 | _ => 0

theorem bs_cons (c : UInt8) (l : List UInt8) : bs [c] ++ bs l = bs (c :: l) := by
  apply ByteArray.ext
  rw [ByteArray.data_append]
  simp [bs]

theorem zeros_val (r : Nat) (ds : List UInt8) : valOf (List.replicate r 48 ++ ds) = valOf ds := by
  induction r with
  | zero => rfl
  | succ r ih => rw [List.replicate_succ, List.cons_append, valOf_zero _ _ (by decide), ih]

theorem number_lex (T : List UInt8) (hd : ∀ y ∈ T, isDigit y = true) (hp : 0 < T.length) : lexL 0 (32 :: T) = if 1125899906842624 < valOf T then .error (3, 1) else .ok [⟨2, T, valOf T, 1⟩, ⟨0, [], 0, 1 + T.length⟩] := by
  cases T with
  | nil => simp at hp
  | cons c r => exact lex_number 32 c r (by decide) (hd c (by simp)) (fun y hy => hd y (by simp [hy]))

set_option maxRecDepth 100000 in
set_option maxHeartbeats 4000000 in
theorem numbers_law (a m : Int) (h1 : -9223372036854775808 ≤ a) (h2 : a ≤ 9223372036854775807) (h3 : 0 ≤ m) (h4 : m ≤ 255) (w : World) :
    Calls Try.prog 6 #[.int .i64 a, .int .u8 m] w fun e w' => e = .returned (.bool true) ∧ Below w.heap.size w w' := by
  obtain ⟨K, hK, hk⟩ := k_of a
  go_enter Try.func6, Try.ntmps6
  go_wp2
  rw [hk]
  clear hk
  go_loopw [6, 7] (fun s t wr => ∃ j x : Nat, ∃ ds sv, s = .string sv ∧ t = .int .i64 x ∧ sv = bs ds ∧ Digs K j x ds ∧ Below w.heap.size w wr) (fun s t _ => (intOf t).toNat + emptyOf s)
  case atStart => exact ⟨0, K, [], _, rfl, rfl, rfl, Digs.start K, Below.refl _ _⟩
  case round =>
    obtain ⟨j, x, ds, sv, rfl, rfl, hsv, hD, hB⟩ := hrel
    have HD := Lib.hid hD
    have HB := Lib.hid hB
    have Hsv := Lib.hid hsv
    have hxK : x ≤ K := by rw [hD.left]; exact Nat.div_le_self _ _
    clear hD hB
    obtain ⟨d, hd⟩ : ∃ d, d = x % 10 := ⟨_, rfl⟩
    have hd9 : d ≤ 9 := by omega
    have hdi : (x : Int) % 10 = (d : Int) := by omega
    have hdi2 : IntKind.u8.wrap (48 + (d : Int)) = 48 + (d : Int) := by
      simp [IntKind.wrap, IntKind.bits, IntKind.signed]
      omega
    obtain ⟨y, hy⟩ : ∃ y : UInt8, y = UInt8.ofNat (48 + d) := ⟨_, rfl⟩
    have hyz : zi y = 48 + (d : Int) := by
      unfold zi
      rw [hy, (digit_of d hd9).1]
      omega
    have Hd := Lib.hid hd
    have Hy := Lib.hid hy
    have hcv := (BytesAt.str (w := wr.alloc (.cells #[.int .u8 (zi y)] 5)) (A := some ⟨wr.heap.size, 0, none⟩) (n := 1) (l := [y]) ⟨rfl, fun _ => ⟨_, _, rfl, by simp, fun i x hx => by
      rw [Nat.zero_add, cell_marked]
      match i, hx with
      | 0, hx => simp at hx; subst hx; rfl⟩⟩ 1)
    rw [hyz] at hcv
    obtain ⟨sy, hsy⟩ : ∃ sy, sy = bs [y] := ⟨_, rfl⟩
    rw [← hsy] at hcv
    have hsy1 : sy.size ≤ 1 := by rw [hsy, bs_size]; simp
    have hsv1 : sv.size ≤ 16 := by rw [Hsv.out, bs_size, HD.out.len]; exact HD.out.few
    have Hsy : Hid (sy ++ sv = bs (y :: ds)) := Lib.hid (by rw [hsy, Hsv.out, bs_cons])
    clear hd hy hyz hsy hsv
    by_cases hx0 : 0 < x
    · have hxi : (0 : Int) < (x : Int) := by omega
      have HN := Lib.hid (HD.out.next hK (.inl hx0))
      rw [← Hd.out, ← Hy.out] at HN
      go_wp2
      go_roundw
      case rel => exact ⟨j + 1, x / 10, y :: ds, _, rfl, by go_num, Hsy.out, HN.out, HB.out.alloc HB.out.size _⟩
      case measure => rw [Hsy.out]; simp [intOf, emptyOf, bs_size]; omega
    · have hxi : ¬ (0 : Int) < (x : Int) := by omega
      have Hx0 : Hid (x = 0) := Lib.hid (by omega)
      by_cases hj : j = 0
      · have hds : ds = [] := List.eq_nil_of_length_eq_zero (by rw [HD.out.len]; exact hj)
        have HN := Lib.hid (HD.out.next hK (.inr hj))
        rw [← Hd.out, ← Hy.out] at HN
        have hsv0 : sv = { data := #[] } := by rw [Hsv.out, hds]; rfl
        clear hds hj Hsv
        subst hsv0
        go_wp2
        go_roundw
        case rel => exact ⟨j + 1, x / 10, y :: ds, _, rfl, by go_num, Hsy.out, HN.out, HB.out.alloc HB.out.size _⟩
        case measure =>
          have e0 : ({ data := #[] } : ByteArray).size = 0 := rfl
          rw [Hsy.out]
          simp [intOf, emptyOf, bs_size, e0]
          omega
      · have hv := HD.out
        rw [Hx0.out] at hv
        have Hval := Lib.hid hv.done
        have hpos : 0 < ds.length := by rw [HD.out.len]; omega
        have htl : sv.toList = ds := by rw [Hsv.out, bs_toList]
        have hne : ¬ sv.toList = [] := by rw [htl]; intro e; rw [e] at hpos; simp at hpos
        have hemp : sv.toList.isEmpty = false := by rw [List.isEmpty_eq_false_iff]; exact hne
        have hbe : (sv.toList == []) = false := by rw [beq_eq_false_iff_ne]; exact hne
        have Hpos := Lib.hid hpos
        clear hcv hv htl hpos Hsy hsy1 hdi hdi2 Hd Hy
        go_wp2
        clear hne hemp hbe
        obtain ⟨r, hr⟩ : ∃ r : Nat, (r : Int) = m % 4 := ⟨(m % 4).toNat, by omega⟩
        have hr4 : r ≤ 3 := by omega
        have hr2 : m % 4 = (r : Int) := hr.symm
        clear hr
        go_loop [6, 8] (fun s t => ∃ i : Nat, ∃ sv2, i ≤ r ∧ t = .int .i64 i ∧ s = .string sv2 ∧ sv2 = bs (List.replicate i 48 ++ ds)) (fun _ t => r - (intOf t).toNat)
        case atStart => exact ⟨0, sv, by omega, rfl, rfl, by rw [Hsv.out]; rfl⟩
        case round =>
          obtain ⟨i, sv2, hi, rfl, rfl, hsv2⟩ := hrel
          have hs2 : sv2.size ≤ 20 := by rw [hsv2, bs_size, List.length_append, List.length_replicate, HD.out.len]; have := HD.out.few; omega
          have Hsv2 := Lib.hid hsv2
          clear hsv2
          by_cases hlt : i < r
          · have hlti : (i : Int) < (r : Int) := by omega
            have HS : Hid ({ data := #[48] } ++ sv2 = bs (List.replicate (i + 1) 48 ++ ds)) := Lib.hid (by
              rw [Hsv2.out, List.replicate_succ, List.cons_append]
              exact bs_cons 48 _)
            go_wp2
            go_round
            case rel => exact ⟨i + 1, _, by omega, by go_num, rfl, HS.out⟩
            case measure => simp [intOf]; omega
          · obtain rfl : r = i := by omega
            have hge : ¬ (r : Int) < (r : Int) := by omega
            obtain ⟨T, hT⟩ : ∃ T, T = List.replicate r 48 ++ ds := ⟨_, rfl⟩
            have hTd : ∀ y ∈ T, isDigit y = true := by
              intro y hy
              rw [hT] at hy
              rcases List.mem_append.1 hy with hy | hy
              · rw [List.eq_of_mem_replicate hy]; decide
              · exact HD.out.dig y hy
            have hTv : valOf T = K := by rw [hT, zeros_val, Hval.out]
            have hTp : 0 < T.length := by rw [hT, List.length_append]; have := Hpos.out; omega
            have hTl : T.length ≤ 20 := by rw [hT, List.length_append, List.length_replicate, HD.out.len]; have := HD.out.few; omega
            rw [← hT] at Hsv2
            obtain ⟨st, hst⟩ : ∃ st, ({ data := #[32] } ++ sv2 : ByteArray) = st := ⟨_, rfl⟩
            have HTl : Hid (st.data.toList = 32 :: T) := Lib.hid (by
              have e : ({ data := #[32] } ++ sv2 : ByteArray) = bs (32 :: T) := by rw [Hsv2.out]; exact bs_cons 32 _
              rw [← hst, e, bs_data])
            have HLex := Lib.hid (number_lex T hTd hTp)
            rw [hTv] at HLex
            obtain ⟨b, cb, w1, hcv, hcc, hB1, hb1⟩ := run_bytes_of wr st
            have hsz : st.size ≤ 30 := by
              have e : st.size = st.data.toList.length := Array.length_toList.symm
              rw [e, HTl.out]
              simp
              omega
            have htk := tokens_any hB1 cb hcc (by omega)
            rw [HTl.out] at htk
            have Hb1 := Lib.hid (HB.out.trans (hb1.mono HB.out.size))
            clear hT hTd hTv hTp hTl hB1 hb1 Hval Hpos
            by_cases hbig : 1125899906842624 < K
            · have hbi : (1125899906842624 : Int) < (K : Int) := by omega
              rw [if_pos hbig] at HLex
              go_wp2_with fail
              (with_reducible refine htk.mono ?_)
              rintro e w2 ⟨v, f, rfl, hout, hb2⟩
              have Hb2 := Lib.hid (Hb1.out.trans (hb2.mono Hb1.out.size))
              clear hb2
              rcases hout with ⟨ts, h1, _⟩ | ⟨er, p, h1, _, rfl, rfl⟩
              · rw [HLex.out] at h1
                cases h1
              · rw [HLex.out] at h1
                injection h1 with h1
                injection h1 with h1 h1b
                subst h1; subst h1b
                obtain ⟨⟨q1, q2⟩, hq⟩ : ∃ q, q = placeL ((32 :: T).take 1) := ⟨_, rfl⟩
                rw [← hq]
                clear hq
                simp only [faultV]
                go_wp2_with fail
                refine (awake_any _).mono ?_
                rintro e w3 ⟨rfl, hb3⟩
                obtain ⟨⟨c0, c1, c2, c3⟩, ⟨f0, f1, f2, f3⟩, hlt5⟩ := new4 (heap_alloc_new w2 _) hb3
                have Hb3 := Lib.hid ((Hb2.out.alloc Hb2.out.size _).trans (hb3.mono (by have := Hb2.out.size; simp; omega)))
                clear hb3
                go_wp2
                go_ret
                exact ⟨rfl, Hb3.out⟩
            · have hbi : ¬ (1125899906842624 : Int) < (K : Int) := by omega
              rw [if_neg hbig] at HLex
              go_wp2_with fail
              (with_reducible refine htk.mono ?_)
              rintro e w2 ⟨v, f, rfl, hout, hb2⟩
              have Hb2 := Lib.hid (Hb1.out.trans (hb2.mono Hb1.out.size))
              clear hb2
              rcases hout with ⟨ts, h1, h2, rfl⟩ | ⟨er, p, h1, _⟩
              · rw [HLex.out] at h1
                injection h1 with h1
                subst h1
                simp only [faultV]
                obtain ⟨av, cv, hv⟩ := own_form h2
                have hv2 : v = .slice av 2 cv := hv
                clear hv
                subst hv2
                have Hrow := Lib.hid h2
                clear h2
                go_wp2_with fail
                refine (awake_any _).mono ?_
                rintro e w3 ⟨rfl, hb3⟩
                obtain ⟨⟨c0, c1, c2, c3⟩, ⟨f0, f1, f2, f3⟩, hlt5⟩ := new4 (heap_alloc_new w2 _) hb3
                have hrow3 := own_moves (own_moves Hrow.out ((Below.refl _ w2).alloc (Nat.le_refl _) (.cells #[.int .i64 0, .int .i64 0, .int .i64 0, .int .i64 0] 27))) hb3
                obtain ⟨rb, cap, hv, hr, hcell⟩ := own_tok hrow3
                have hv := hv (by simp)
                injection hv with g1 g2 g3
                subst g1
                obtain ⟨a0, a1, a2, a3⟩ := hcell 0 _ rfl
                simp only [Nat.zero_mul, Nat.zero_add] at a0 a1 a2 a3
                rw [← Hsv2.out] at a1
                have Hb3 := Lib.hid ((Hb2.out.alloc Hb2.out.size _).trans (hb3.mono (by have := Hb2.out.size; simp; omega)))
                clear hb3 hrow3 hcell hr g2 g3
                go_wp2
                go_ret
                exact ⟨rfl, Hb3.out⟩
              · rw [HLex.out] at h1
                cases h1

end Go.Proofs.Ytohfdakagppgmaa
