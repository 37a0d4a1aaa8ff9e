/-
  What lex takes of packages strings and bytes, further: whether a byte is a sign; whether an arrow stands ahead.
  Conditions: none beyond each theorem's own.
-/
import Derived.Test.YtoicmoodhblflaaLexLib
import Derived.WalkMore
namespace Go.Proofs.Ytoicmoodhblflaa
open Go.RowKit
set_option linter.unusedVariables false

theorem bs_toList (l : List UInt8) : (bs l).toList = l := by rw [Lib.toList_data, bs_data]

section
variable {w : World} {A : Option Addr} {n : Nat} {l : List UInt8}

set_option maxRecDepth 100000 in
theorem equal_any {B : Option Addr} {m : Nat} {k : List UInt8} (h : BytesAt w A n l) (h2 : BytesAt w B m k) (c d : Nat) :
    Calls Try.prog 88 #[.slice A n c, .slice B m d] w fun e w' => e = .returned (.bool (decide (l = k))) ∧ w = w' := by
  have r1 := h.str c
  have r2 := h2.str d
  obtain ⟨s, hs⟩ : ∃ s, s = bs l := ⟨_, rfl⟩
  obtain ⟨t, ht⟩ : ∃ t, t = bs k := ⟨_, rfl⟩
  rw [← hs] at r1
  rw [← ht] at r2
  have Hs : Hid ((s.toList == t.toList) = decide (l = k)) := Lib.hid (by rw [hs, ht, bs_toList, bs_toList]; rw [Bool.eq_iff_iff]; simp)
  clear h h2 hs ht
  go_enter Try.func88, Try.ntmps88
  go_wp2
  go_ret
  exact ⟨ret_bool Hs.out, rfl⟩

/-- does an arrow stand ahead? -/
def arrowB (l : List UInt8) : Bool := decide (l.take 2 = [45, 62])

set_option maxRecDepth 100000 in
theorem prefix_any {B : Option Addr} (h : BytesAt w A n l) (h2 : BytesAt w B 2 [45, 62]) (c d : Nat) (hc : n ≤ c) :
    Calls Try.prog 80 #[.slice A n c, .slice B 2 d] w fun e w' => e = .returned (.bool (arrowB l)) ∧ w = w' := by
  have H := Lib.hid h
  have H2 := Lib.hid h2
  have Hl := Lib.hid h.len
  have Ha : Hid (arrowB l = decide (l.take 2 = [45, 62])) := Lib.hid rfl
  clear h h2
  by_cases hn : 2 ≤ n
  · have hni : (2 : Int) ≤ (n : Int) := by omega
    have hce := equal_any (H.out.take 2 hn) H2.out c d
    obtain ⟨q, hq⟩ : ∃ q, q = decide (l.take 2 = [45, 62]) := ⟨_, rfl⟩
    rw [← hq] at hce
    have Hq := Lib.hid hq
    clear hq
    go_enter Try.func80, Try.ntmps80
    go_wp2_with (go_at_call 88; refine hce.mono ?_; rintro e w' ⟨rfl, rfl⟩)
    go_ret
    exact ⟨ret_bool (by rw [Ha.out, Hq.out]), rfl⟩
  · have hnd : decide (2 ≤ n) = false := by simpa using hn
    have hni : (n : Int) < 2 := by omega
    go_enter Try.func80, Try.ntmps80
    go_wp2_with fail
    go_ret
    exact ⟨ret_bool (a := false) (by
      rw [Ha.out, decide_eq_false]
      intro e
      have := congrArg List.length e
      rw [List.length_take, Hl.out] at this
      simp at this
      omega), rfl⟩

end

/-- is a byte a sign? -/
def signI (c : Int) : Bool := isSign (UInt8.ofNat c.toNat)

theorem sign_zi (x : UInt8) : signI (zi x) = isSign x := by
  unfold signI zi
  simp

theorem index_mem (l : List UInt8) (x : UInt8) : (0 ≤ Lib.indexByte l x) ↔ x ∈ l := by
  induction l with
  | nil => simp [Lib.indexByte]
  | cons y l ih =>
    have hge := Lib.indexByte_ge l x
    unfold Lib.indexByte
    by_cases h : y = x
    · subst h; simp
    · have hb : (y == x) = false := by simpa using h
      simp only [hb, Bool.false_eq_true, if_false, List.mem_cons]
      by_cases h2 : Lib.indexByte l x = -1
      · simp [h2]
        rw [h2] at ih
        simp at ih
        exact ⟨fun e => h e.symm, ih⟩
      · simp only [beq_iff_eq, h2, if_false]
        constructor
        · intro _; exact .inr (ih.1 (by omega))
        · rintro (e | e)
          · exact absurd e.symm h
          · have := ih.2 e; omega

theorem signs_index (x : UInt8) : decide (0 ≤ Lib.indexByte [59, 58, 44, 42, 33, 126, 64, 61] x) = isSign x := by
  rw [Bool.eq_iff_iff]
  simp only [decide_eq_true_eq, index_mem, isSign]
  simp only [List.mem_cons, List.not_mem_nil, or_false, List.contains_iff_mem]
  have e : ∀ n : Nat, n < 256 → (x = UInt8.ofNat n ↔ x.toNat = n) := by
    intro n hn
    constructor
    · rintro rfl; simp; omega
    · intro h; rw [← h]; simp
  rw [show (59 : UInt8) = UInt8.ofNat 59 from rfl, show (58 : UInt8) = UInt8.ofNat 58 from rfl, show (44 : UInt8) = UInt8.ofNat 44 from rfl, show (42 : UInt8) = UInt8.ofNat 42 from rfl, show (33 : UInt8) = UInt8.ofNat 33 from rfl, show (126 : UInt8) = UInt8.ofNat 126 from rfl, show (64 : UInt8) = UInt8.ofNat 64 from rfl, show (61 : UInt8) = UInt8.ofNat 61 from rfl]
  rw [e 59 (by omega), e 58 (by omega), e 44 (by omega), e 42 (by omega), e 33 (by omega), e 126 (by omega), e 64 (by omega), e 61 (by omega)]

set_option maxRecDepth 100000 in
set_option maxHeartbeats 2000000 in
theorem rune_low (c : Int) (w : World) (h0 : 0 ≤ c) (h1 : c < 128) :
    Calls Try.prog 87 #[.string { data := #[59, 58, 44, 42, 33, 126, 64, 61] }, .int .i32 c] w fun e w' => e = .returned (.int .i64 (Lib.indexByte [59, 58, 44, 42, 33, 126, 64, 61] (UInt8.ofNat c.toNat))) ∧ w = w' := by
  go_enter Try.func87, Try.ntmps87
  go_wp2
  rw [run_callFunc_extern Try.func116 (by kernel_rfl) (by kernel_rfl) (by kernel_rfl) (e := Extern.BytealgIndexByte.indexByte) (by kernel_rfl), Lib.run_indexByteString]
  simp only [Result.andThen]
  rw [Oper.upon_value]
  go_wp2
  go_ret
  exact ⟨rfl, rfl⟩

theorem encode_two (c : Int) (h0 : 128 ≤ c) (h1 : c < 256) : ∃ x y : UInt8, Utf8.encode c = { data := #[x, y] } ∧ 128 ≤ y.toNat := by
  have hv : Utf8.valid c = true := by rw [validRune_eq]; unfold validRune; exact decide_eq_true (.inl ⟨by omega, by omega⟩)
  have hc : ¬ c.toNat < 128 := by omega
  have hc2 : c.toNat < 2048 := by omega
  unfold Utf8.encode
  simp only [hv, if_true, hc, if_false, hc2]
  exact ⟨_, _, rfl, by simp; omega⟩

set_option maxRecDepth 100000 in
theorem index_str (s : ByteArray) (c : Int) (w : World) :
    Calls Try.prog 97 #[.string s, .int .u8 c] w fun e w' => e = .returned (.int .i64 (Lib.indexByte s.data.toList (UInt8.ofNat c.toNat))) ∧ w = w' := by
  go_enter Try.func97, Try.ntmps97
  go_wp2
  rw [run_callFunc_extern Try.func116 (by kernel_rfl) (by kernel_rfl) (by kernel_rfl) (e := Extern.BytealgIndexByte.indexByte) (by kernel_rfl), Lib.run_indexByteString]
  simp only [Result.andThen]
  rw [Oper.upon_value]
  go_wp2
  go_ret
  exact ⟨rfl, rfl⟩

theorem index_none (s : ByteArray) (c : Int) (w : World) (h : Lib.indexByte s.data.toList (UInt8.ofNat c.toNat) = -1) :
    Calls Try.prog 97 #[.string s, .int .u8 c] w fun e w' => e = .returned (.int .i64 (-1)) ∧ w = w' := by
  rw [← h]; exact index_str s c w

theorem still_more {f : FuncId} {args : Array Value} {w : World} {a n : Nat} {v : Value} (h : Calls Try.prog f args (w.drewN (a + n)) fun e w' => e = .returned v ∧ w.drewN (a + n) = w') :
    Calls Try.prog f args (w.drewN (a + n)) fun e w' => e = .returned v ∧ ∃ m, w' = w.drewN (a + m) := h.mono fun _ _ ⟨he, hm⟩ => ⟨he, n, hm.symm⟩

theorem rest_none (y : UInt8) (hy : 128 ≤ y.toNat) : Lib.indexByte [44, 42, 33, 126, 64, 61] y = -1 := by
  have h1 := Lib.indexByte_ge [44, 42, 33, 126, 64, 61] y
  by_cases h : 0 ≤ Lib.indexByte [44, 42, 33, 126, 64, 61] y
  · rw [index_mem] at h
    simp only [List.mem_cons, List.not_mem_nil, or_false] at h
    rcases h with rfl | rfl | rfl | rfl | rfl | rfl <;> simp at hy
  · omega

set_option maxRecDepth 100000 in
set_option maxHeartbeats 2000000 in
theorem rune_high (c : Int) (w : World) (h0 : 128 ≤ c) (h1 : c < 256) :
    Calls Try.prog 87 #[.string { data := #[59, 58, 44, 42, 33, 126, 64, 61] }, .int .i32 c] w fun e w' => e = .returned (.int .i64 (-1)) ∧ ∃ q, w' = w.drewN q := by
  obtain ⟨x, y, he, hy⟩ := encode_two c h0 h1
  have hy2 : ((58 : Int) == (y.toNat : Int)) = false := by simp; omega
  have hy3 : ((58 : Int) != (y.toNat : Int)) = true := by simp; omega
  have hy4 : ((({ data := #[59, 58, 44, 42, 33, 126, 64, 61] } : ByteArray)[1].toNat : Int) != ((({ data := #[x, y] } : ByteArray)[1]'(show 1 < 2 by omega)).toNat : Int)) = true := hy3
  have Hr : Hid (Lib.indexByte [44, 42, 33, 126, 64, 61] (UInt8.ofNat (y.toNat : Int).toNat) = -1) := Lib.hid (by simpa using rest_none y hy)
  go_enter Try.func87, Try.ntmps87
  go_wp2
  go_step3
  go_wp2
  go_loop [9] (fun t => t = .int .i64 1) (fun t => 0)
  case atStart => rfl
  case round =>
    have hr := hrel
    subst hr
    clear hrel
    go_wp2
    go_step3
    go_wp2
    go_quiet (fail)
    go_wp2
    go_quiet ((go_at_call 97; exact still_more (index_none _ _ _ Hr.out)))
    go_wp2
    simp (config := { zetaDelta := true }) only [Exit.noGoto_ret, Exit.inBlock, Exit.then]
    go_ret
    exact ⟨rfl, _, rfl⟩

set_option maxRecDepth 100000 in
theorem signs_any (c : Int) (w : World) (h0 : 0 ≤ c) (h1 : c < 256) :
    Calls Try.prog 79 #[.string { data := #[59, 58, 44, 42, 33, 126, 64, 61] }, .int .i32 c] w fun e w' => e = .returned (.bool (signI c)) ∧ ∃ q, w' = w.drewN q := by
  have Hs : Hid (signI c = isSign (UInt8.ofNat c.toNat)) := Lib.hid rfl
  by_cases hlt : c < 128
  · have hc := rune_low c w h0 hlt
    obtain ⟨m, hm⟩ : ∃ m, m = Lib.indexByte [59, 58, 44, 42, 33, 126, 64, 61] (UInt8.ofNat c.toNat) := ⟨_, rfl⟩
    rw [← hm] at hc
    have Hm : Hid (decide (0 ≤ m) = signI c) := Lib.hid (by rw [hm, signs_index, Hs.out])
    clear hm
    go_enter Try.func79, Try.ntmps79
    go_wp2_with (go_at_call 87; refine hc.mono ?_; rintro e w' ⟨rfl, rfl⟩)
    go_ret
    exact ⟨ret_bool Hm.out, 0, rfl⟩
  · have hc := rune_high c w (by omega) h1
    have Hm : Hid (false = signI c) := Lib.hid (by
      rw [Hs.out, ← signs_index]
      symm
      rw [decide_eq_false_iff_not, index_mem]
      intro h
      have e : (UInt8.ofNat c.toNat).toNat = c.toNat := by simp; omega
      obtain ⟨x, hx⟩ : ∃ x, x = UInt8.ofNat c.toNat := ⟨_, rfl⟩
      rw [← hx] at h e
      simp only [List.mem_cons, List.not_mem_nil, or_false] at h
      rcases h with h | h | h | h | h | h | h | h <;> rw [h] at e <;> simp at e <;> omega)
    go_enter Try.func79, Try.ntmps79
    go_wp2_with (go_at_call 87; refine hc.mono ?_; rintro e w' ⟨rfl, q, rfl⟩)
    go_ret
    exact ⟨ret_bool Hm.out, q, rfl⟩

end Go.Proofs.Ytoicmoodhblflaa
