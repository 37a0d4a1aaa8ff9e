/-
  What lex takes of package bytes: how many ends of line there are, the first and the last one; whether an arrow stands ahead. What lex takes of packages strings and bytes, further: whether a byte is a sign; whether an arrow stands ahead. What Place and Fault of lex, and the document's own Place, come to: line and column behind the bytes ahead of a place. What skip of lex comes to: the place of the next byte that is neither blank nor in a comment; the tokens from there on are those from here on. What run and number of lex come to: the bytes of a kind ahead; the number that digits stand for, or that it is too great. What read of lex comes to: one token, or what is wrong there.
  Conditions: none beyond each theorem's own.
-/
import Derived.Test.YtfiielibnnodkaaBase4
import Derived.Shelf.Bytes.SlCountOne
import Derived.WalkMore
/-! ## LexLib -/
namespace Go.Proofs.Ytfiielibnnodkaa
open Go.RowKit
set_option linter.unusedVariables false

section
variable {w : World} {A : Option Addr} {n c : Nat} {l : List UInt8}

theorem BytesAt.count_run (h : BytesAt w A n l) (c : Nat) : (Extern.BytealgCount.count #[.slice A n c, .int .u8 10]).run Try.prog w = .ok (.int .i64 (Lib.countByte l 10 : Nat)) w := by
  rcases Nat.eq_zero_or_pos n with h0 | h0
  · subst h0
    have hl : l = [] := List.eq_nil_of_length_eq_zero h.len
    subst hl
    cases A with
    | none => exact Lib.run_countNil w 0 c 10
    | some a => exact Lib.run_countAt w a 0 c [] rfl (fun i hi => by omega) 10
  · obtain ⟨b, off, rfl, hb, hc⟩ := h.cells h0
    obtain ⟨h1, h2, h3⟩ := h.nums
    have := Lib.run_countSlice (P := Try.prog) w b off n c (l.map zi) h1 h2 10
    rw [h3] at this
    exact this

set_option maxRecDepth 100000 in
theorem count_any (h : BytesAt w A n l) (c b2 o2 d : Nat) (hs : w.cell? ⟨b2, o2, none⟩ = some (.int .u8 10)) :
    Calls Try.prog 77 #[.slice A n c, .slice (some ⟨b2, o2, none⟩) 1 d] w fun e w' => e = .returned (.int .i64 (Lib.countByte l 10 : Nat)) ∧ w = w' := by
  have hr := h.count_run c
  obtain ⟨m, hm⟩ : ∃ m, m = Lib.countByte l 10 := ⟨_, rfl⟩
  rw [← hm] at hr
  have Hm := Lib.hid hm
  clear hm h
  go_enter Try.func77, Try.ntmps77
  go_wp2
  rw [run_callFunc_extern Try.func90 (by kernel_rfl) (by kernel_rfl) (by kernel_rfl) (e := Extern.BytealgCount.count) (by kernel_rfl), hr]
  simp only [Result.andThen]
  rw [Oper.upon_value]
  go_wp2
  go_ret
  exact ⟨by rw [Hm.out]; rfl, rfl⟩

theorem BytesAt.index_run {b off : Nat} (h : BytesAt w (some ⟨b, off, none⟩) n l) (c : Nat) : (Extern.BytealgIndexByte.indexByte #[.slice (some ⟨b, off, none⟩) n c, .int .u8 10]).run Try.prog w = .ok (.int .i64 (Lib.indexByte l 10)) w := by
  obtain ⟨h1, h2, h3⟩ := h.nums
  have := Lib.run_indexByteSlice (P := Try.prog) w b off n c (l.map zi) h1 h2 10
  rw [h3] at this
  exact this

set_option maxRecDepth 100000 in
theorem index_any {b off : Nat} (h : BytesAt w (some ⟨b, off, none⟩) n l) (c : Nat) :
    Calls Try.prog 66 #[.slice (some ⟨b, off, none⟩) n c, .int .u8 10] w fun e w' => e = .returned (.int .i64 (Lib.indexByte l 10)) ∧ w = w' := by
  have hr := h.index_run c
  obtain ⟨m, hm⟩ : ∃ m, m = Lib.indexByte l 10 := ⟨_, rfl⟩
  rw [← hm] at hr
  have Hm := Lib.hid hm
  clear hm h
  go_enter Try.func66, Try.ntmps66
  go_wp2
  rw [run_callFunc_extern Try.func82 (by kernel_rfl) (by kernel_rfl) (by kernel_rfl) (e := Extern.BytealgIndexByte.indexByte) (by kernel_rfl), hr]
  simp only [Result.andThen]
  rw [Oper.upon_value]
  go_wp2
  go_ret
  exact ⟨by rw [Hm.out]; rfl, rfl⟩

/-- no end of line from place k on -/
def NoNl (l : List UInt8) (k : Nat) : Prop := ∀ c ∈ l.drop k, c.toNat ≠ 10

theorem zi_ten {x : UInt8} (h : zi x = 10) : x = 10 := by
  unfold zi at h
  exact UInt8.toNat_inj.1 (by show x.toNat = 10; omega)

set_option maxRecDepth 100000 in
theorem last_any (h : BytesAt w A n l) (c : Nat) (hn : n ≤ 9000000000000000000) :
    Calls Try.prog 92 #[.slice A n c, .int .u8 10] w fun e w' => ∃ k : Int, LastNl l k ∧ e = .returned (.int .i64 k) ∧ w = w' := by
  have H := Lib.hid h
  clear h
  go_enter Try.func92, Try.ntmps92
  go_wp2
  go_loop [5] (fun t => ∃ i : Int, -1 ≤ i ∧ i < (n : Int) ∧ t = .int .i64 i ∧ NoNl l (i + 1).toNat) (fun t => (intOf t + 1).toNat)
  case atStart => exact ⟨(n : Int) - 1, by omega, by omega, rfl, fun c hc => by
    rw [List.drop_of_length_le (by rw [H.out.len]; omega)] at hc
    cases hc⟩
  case round =>
    obtain ⟨i, h1, h2, rfl, hno⟩ := hrel
    have Hno := Lib.hid hno
    clear hno
    by_cases h0 : 0 ≤ i
    · obtain ⟨k, rfl⟩ := Int.eq_ofNat_of_zero_le h0
      obtain ⟨b, off, x, hA, hb, hx, hd, hc⟩ := H.out.at_ (k := k) (by omega)
      subst hA
      obtain ⟨z, hz⟩ : ∃ z, z = zi x := ⟨_, rfl⟩
      rw [← hz] at hc
      have Hz := Lib.hid hz
      have Hd := Lib.hid hd
      have Hx := Lib.hid hx
      clear hz hd hx h0
      have hkn : k < n := by omega
      by_cases hten : z = 10
      · subst hten
        go_wp2
        go_ret
        refine ⟨_, .inr ⟨l.take k, l.drop (k + 1), ?_, ?_, ?_⟩, rfl, rfl⟩
        · rw [← zi_ten Hz.out.symm, ← Hd.out, List.take_append_drop]
        · have := H.out.len
          rw [List.length_take]; omega
        · have := Hno.out
          unfold NoNl at this
          rw [show ((k : Int) + 1).toNat = k + 1 by omega] at this
          exact this
      · have hb1 : (z == 10) = false := by simpa using hten
        go_wp2
        go_round
        case rel => exact ⟨(k : Int) - 1, by omega, by omega, by go_num, fun c hc => by
          rw [show ((k : Int) - 1 + 1).toNat = k by omega, Hd.out] at hc
          rcases List.mem_cons.1 hc with rfl | hc
          · intro e
            exact hten (by rw [Hz.out]; unfold zi; omega)
          · have := Hno.out
            unfold NoNl at this
            rw [show ((k : Int) + 1).toNat = k + 1 by omega] at this
            exact this c hc⟩
        case measure => simp [intOf]
    · have h0b : i < 0 := by omega
      go_wp2
      go_ret
      refine ⟨-1, .inl ⟨rfl, ?_⟩, rfl, rfl⟩
      have := Hno.out
      unfold NoNl at this
      rw [show (i + 1).toNat = 0 by omega] at this
      simpa using this

end

end Go.Proofs.Ytfiielibnnodkaa

/-! ## LexSigns -/
namespace Go.Proofs.Ytfiielibnnodkaa
open Go.RowKit
set_option linter.unusedVariables false

theorem bs_toList (l : List UInt8) : (bs l).toList = l := by rw [Lib.toList_data, bs_data]

section
variable {w : World} {A : Option Addr} {n : Nat} {l : List UInt8}

set_option maxRecDepth 100000 in
theorem equal_any {B : Option Addr} {m : Nat} {k : List UInt8} (h : BytesAt w A n l) (h2 : BytesAt w B m k) (c d : Nat) :
    Calls Try.prog 84 #[.slice A n c, .slice B m d] w fun e w' => e = .returned (.bool (decide (l = k))) ∧ w = w' := by
  have r1 := h.str c
  have r2 := h2.str d
  obtain ⟨s, hs⟩ : ∃ s, s = bs l := ⟨_, rfl⟩
  obtain ⟨t, ht⟩ : ∃ t, t = bs k := ⟨_, rfl⟩
  rw [← hs] at r1
  rw [← ht] at r2
  have Hs : Hid ((s.toList == t.toList) = decide (l = k)) := Lib.hid (by rw [hs, ht, bs_toList, bs_toList]; rw [Bool.eq_iff_iff]; simp)
  clear h h2 hs ht
  go_enter Try.func84, Try.ntmps84
  go_wp2
  go_ret
  exact ⟨ret_bool Hs.out, rfl⟩

/-- does an arrow stand ahead? -/
def arrowB (l : List UInt8) : Bool := decide (l.take 2 = [45, 62])

set_option maxRecDepth 100000 in
theorem prefix_any {B : Option Addr} (h : BytesAt w A n l) (h2 : BytesAt w B 2 [45, 62]) (c d : Nat) (hc : n ≤ c) :
    Calls Try.prog 73 #[.slice A n c, .slice B 2 d] w fun e w' => e = .returned (.bool (arrowB l)) ∧ w = w' := by
  have H := Lib.hid h
  have H2 := Lib.hid h2
  have Hl := Lib.hid h.len
  have Ha : Hid (arrowB l = decide (l.take 2 = [45, 62])) := Lib.hid rfl
  clear h h2
  by_cases hn : 2 ≤ n
  · have hni : (2 : Int) ≤ (n : Int) := by omega
    have hce := equal_any (H.out.take 2 hn) H2.out c d
    obtain ⟨q, hq⟩ : ∃ q, q = decide (l.take 2 = [45, 62]) := ⟨_, rfl⟩
    rw [← hq] at hce
    have Hq := Lib.hid hq
    clear hq
    go_enter Try.func73, Try.ntmps73
    go_wp2_with (go_at_call 84; refine hce.mono ?_; rintro e w' ⟨rfl, rfl⟩)
    go_ret
    exact ⟨ret_bool (by rw [Ha.out, Hq.out]), rfl⟩
  · have hnd : decide (2 ≤ n) = false := by simpa using hn
    have hni : (n : Int) < 2 := by omega
    go_enter Try.func73, Try.ntmps73
    go_wp2_with fail
    go_ret
    exact ⟨ret_bool (a := false) (by
      rw [Ha.out, decide_eq_false]
      intro e
      have := congrArg List.length e
      rw [List.length_take, Hl.out] at this
      simp at this
      omega), rfl⟩

end

/-- is a byte a sign? -/
def signI (c : Int) : Bool := isSign (UInt8.ofNat c.toNat)

theorem sign_zi (x : UInt8) : signI (zi x) = isSign x := by
  unfold signI zi
  simp

theorem index_mem (l : List UInt8) (x : UInt8) : (0 ≤ Lib.indexByte l x) ↔ x ∈ l := by
  induction l with
  | nil => simp [Lib.indexByte]
  | cons y l ih =>
    have hge := Lib.indexByte_ge l x
    unfold Lib.indexByte
    by_cases h : y = x
    · subst h; simp
    · have hb : (y == x) = false := by simpa using h
      simp only [hb, Bool.false_eq_true, if_false, List.mem_cons]
      by_cases h2 : Lib.indexByte l x = -1
      · simp [h2]
        rw [h2] at ih
        simp at ih
        exact ⟨fun e => h e.symm, ih⟩
      · simp only [beq_iff_eq, h2, if_false]
        constructor
        · intro _; exact .inr (ih.1 (by omega))
        · rintro (e | e)
          · exact absurd e.symm h
          · have := ih.2 e; omega

theorem signs_index (x : UInt8) : decide (0 ≤ Lib.indexByte [59, 58, 44, 42, 33, 126, 64, 61] x) = isSign x := by
  rw [Bool.eq_iff_iff]
  simp only [decide_eq_true_eq, index_mem, isSign]
  simp only [List.mem_cons, List.not_mem_nil, or_false, List.contains_iff_mem]
  have e : ∀ n : Nat, n < 256 → (x = UInt8.ofNat n ↔ x.toNat = n) := by
    intro n hn
    constructor
    · rintro rfl; simp; omega
    · intro h; rw [← h]; simp
  rw [show (59 : UInt8) = UInt8.ofNat 59 from rfl, show (58 : UInt8) = UInt8.ofNat 58 from rfl, show (44 : UInt8) = UInt8.ofNat 44 from rfl, show (42 : UInt8) = UInt8.ofNat 42 from rfl, show (33 : UInt8) = UInt8.ofNat 33 from rfl, show (126 : UInt8) = UInt8.ofNat 126 from rfl, show (64 : UInt8) = UInt8.ofNat 64 from rfl, show (61 : UInt8) = UInt8.ofNat 61 from rfl]
  rw [e 59 (by omega), e 58 (by omega), e 44 (by omega), e 42 (by omega), e 33 (by omega), e 126 (by omega), e 64 (by omega), e 61 (by omega)]

set_option maxRecDepth 100000 in
set_option maxHeartbeats 2000000 in
theorem rune_low (c : Int) (w : World) (h0 : 0 ≤ c) (h1 : c < 128) :
    Calls Try.prog 83 #[.string { data := #[59, 58, 44, 42, 33, 126, 64, 61] }, .int .i32 c] w fun e w' => e = .returned (.int .i64 (Lib.indexByte [59, 58, 44, 42, 33, 126, 64, 61] (UInt8.ofNat c.toNat))) ∧ w = w' := by
  go_enter Try.func83, Try.ntmps83
  go_wp2
  rw [run_callFunc_extern Try.func112 (by kernel_rfl) (by kernel_rfl) (by kernel_rfl) (e := Extern.BytealgIndexByte.indexByte) (by kernel_rfl), Lib.run_indexByteString]
  simp only [Result.andThen]
  rw [Oper.upon_value]
  go_wp2
  go_ret
  exact ⟨rfl, rfl⟩

theorem encode_two (c : Int) (h0 : 128 ≤ c) (h1 : c < 256) : ∃ x y : UInt8, Utf8.encode c = { data := #[x, y] } ∧ 128 ≤ y.toNat := by
  have hv : Utf8.valid c = true := by rw [validRune_eq]; unfold validRune; exact decide_eq_true (.inl ⟨by omega, by omega⟩)
  have hc : ¬ c.toNat < 128 := by omega
  have hc2 : c.toNat < 2048 := by omega
  unfold Utf8.encode
  simp only [hv, if_true, hc, if_false, hc2]
  exact ⟨_, _, rfl, by simp; omega⟩

set_option maxRecDepth 100000 in
theorem index_str (s : ByteArray) (c : Int) (w : World) :
    Calls Try.prog 93 #[.string s, .int .u8 c] w fun e w' => e = .returned (.int .i64 (Lib.indexByte s.data.toList (UInt8.ofNat c.toNat))) ∧ w = w' := by
  go_enter Try.func93, Try.ntmps93
  go_wp2
  rw [run_callFunc_extern Try.func112 (by kernel_rfl) (by kernel_rfl) (by kernel_rfl) (e := Extern.BytealgIndexByte.indexByte) (by kernel_rfl), Lib.run_indexByteString]
  simp only [Result.andThen]
  rw [Oper.upon_value]
  go_wp2
  go_ret
  exact ⟨rfl, rfl⟩

theorem index_none (s : ByteArray) (c : Int) (w : World) (h : Lib.indexByte s.data.toList (UInt8.ofNat c.toNat) = -1) :
    Calls Try.prog 93 #[.string s, .int .u8 c] w fun e w' => e = .returned (.int .i64 (-1)) ∧ w = w' := by
  rw [← h]; exact index_str s c w

theorem still_more {f : FuncId} {args : Array Value} {w : World} {a n : Nat} {v : Value} (h : Calls Try.prog f args (w.drewN (a + n)) fun e w' => e = .returned v ∧ w.drewN (a + n) = w') :
    Calls Try.prog f args (w.drewN (a + n)) fun e w' => e = .returned v ∧ ∃ m, w' = w.drewN (a + m) := h.mono fun _ _ ⟨he, hm⟩ => ⟨he, n, hm.symm⟩

theorem rest_none (y : UInt8) (hy : 128 ≤ y.toNat) : Lib.indexByte [44, 42, 33, 126, 64, 61] y = -1 := by
  have h1 := Lib.indexByte_ge [44, 42, 33, 126, 64, 61] y
  by_cases h : 0 ≤ Lib.indexByte [44, 42, 33, 126, 64, 61] y
  · rw [index_mem] at h
    simp only [List.mem_cons, List.not_mem_nil, or_false] at h
    rcases h with rfl | rfl | rfl | rfl | rfl | rfl <;> simp at hy
  · omega

set_option maxRecDepth 100000 in
set_option maxHeartbeats 2000000 in
theorem rune_high (c : Int) (w : World) (h0 : 128 ≤ c) (h1 : c < 256) :
    Calls Try.prog 83 #[.string { data := #[59, 58, 44, 42, 33, 126, 64, 61] }, .int .i32 c] w fun e w' => e = .returned (.int .i64 (-1)) ∧ ∃ q, w' = w.drewN q := by
  obtain ⟨x, y, he, hy⟩ := encode_two c h0 h1
  have hy2 : ((58 : Int) == (y.toNat : Int)) = false := by simp; omega
  have hy3 : ((58 : Int) != (y.toNat : Int)) = true := by simp; omega
  have hy4 : ((({ data := #[59, 58, 44, 42, 33, 126, 64, 61] } : ByteArray)[1].toNat : Int) != ((({ data := #[x, y] } : ByteArray)[1]'(show 1 < 2 by omega)).toNat : Int)) = true := hy3
  have Hr : Hid (Lib.indexByte [44, 42, 33, 126, 64, 61] (UInt8.ofNat (y.toNat : Int).toNat) = -1) := Lib.hid (by simpa using rest_none y hy)
  go_enter Try.func83, Try.ntmps83
  go_wp2
  go_step3
  go_wp2
  go_loop [9] (fun t => t = .int .i64 1) (fun t => 0)
  case atStart => rfl
  case round =>
    have hr := hrel
    subst hr
    clear hrel
    go_wp2
    go_step3
    go_wp2
    go_quiet (fail)
    go_wp2
    go_quiet ((go_at_call 93; exact still_more (index_none _ _ _ Hr.out)))
    go_wp2
    simp (config := { zetaDelta := true }) only [Exit.noGoto_ret, Exit.inBlock, Exit.then]
    go_ret
    exact ⟨rfl, _, rfl⟩

set_option maxRecDepth 100000 in
theorem signs_any (c : Int) (w : World) (h0 : 0 ≤ c) (h1 : c < 256) :
    Calls Try.prog 72 #[.string { data := #[59, 58, 44, 42, 33, 126, 64, 61] }, .int .i32 c] w fun e w' => e = .returned (.bool (signI c)) ∧ ∃ q, w' = w.drewN q := by
  have Hs : Hid (signI c = isSign (UInt8.ofNat c.toNat)) := Lib.hid rfl
  by_cases hlt : c < 128
  · have hc := rune_low c w h0 hlt
    obtain ⟨m, hm⟩ : ∃ m, m = Lib.indexByte [59, 58, 44, 42, 33, 126, 64, 61] (UInt8.ofNat c.toNat) := ⟨_, rfl⟩
    rw [← hm] at hc
    have Hm : Hid (decide (0 ≤ m) = signI c) := Lib.hid (by rw [hm, signs_index, Hs.out])
    clear hm
    go_enter Try.func72, Try.ntmps72
    go_wp2_with (go_at_call 83; refine hc.mono ?_; rintro e w' ⟨rfl, rfl⟩)
    go_ret
    exact ⟨ret_bool Hm.out, 0, rfl⟩
  · have hc := rune_high c w (by omega) h1
    have Hm : Hid (false = signI c) := Lib.hid (by
      rw [Hs.out, ← signs_index]
      symm
      rw [decide_eq_false_iff_not, index_mem]
      intro h
      have e : (UInt8.ofNat c.toNat).toNat = c.toNat := by simp; omega
      obtain ⟨x, hx⟩ : ∃ x, x = UInt8.ofNat c.toNat := ⟨_, rfl⟩
      rw [← hx] at h e
      simp only [List.mem_cons, List.not_mem_nil, or_false] at h
      rcases h with h | h | h | h | h | h | h | h <;> rw [h] at e <;> simp at e <;> omega)
    go_enter Try.func72, Try.ntmps72
    go_wp2_with (go_at_call 83; refine hc.mono ?_; rintro e w' ⟨rfl, q, rfl⟩)
    go_ret
    exact ⟨ret_bool Hm.out, q, rfl⟩

end Go.Proofs.Ytfiielibnnodkaa

/-! ## LexPlace -/
namespace Go.Proofs.Ytfiielibnnodkaa
open Go.RowKit
set_option linter.unusedVariables false

/-- a place within a text of n bytes -/
def clampI (at_ : Int) (n : Nat) : Nat := min (max at_ 0).toNat n

section
variable {w : World} {A : Option Addr} {n : Nat} {l : List UInt8}

/-- 'p[:k]' -/
theorem clamp_eq (a : Int) (n : Nat) : min (max a 0) (n : Int) = (clampI a n : Nat) := by
  unfold clampI
  omega

set_option maxRecDepth 100000 in
theorem lastIndex_any (h : BytesAt w A n l) (c : Nat) (hn : n ≤ 9000000000000000000) :
    Calls Try.prog 78 #[.slice A n c, .int .u8 10] w fun e w' => ∃ k : Int, LastNl l k ∧ e = .returned (.int .i64 k) ∧ w = w' := by
  have hc := last_any h c hn
  clear h
  go_enter Try.func78, Try.ntmps78
  go_wp2_with (go_at_call 92; refine hc.mono ?_; rintro e w' ⟨k, hk, rfl, rfl⟩)
  go_ret
  exact ⟨k, hk, rfl, rfl⟩

set_option maxRecDepth 100000 in
set_option maxHeartbeats 1000000 in
theorem place_any (h : BytesAt w A n l) (c : Nat) (hc : n ≤ c) (hn : n ≤ 1000000) (at_ : Int) (h1 : -9223372036854775808 ≤ at_) (h2 : at_ ≤ 9223372036854775807) :
    Calls Try.prog 55 #[.slice A n c, .int .i64 at_] w fun e w' => e = .returned (.tuple #[.int .i64 (placeL (l.take (clampI at_ n))).1, .int .i64 (placeL (l.take (clampI at_ n))).2]) ∧ Below w.heap.size w w' := by
  have H := Lib.hid h
  obtain ⟨k, hk⟩ : ∃ k, k = clampI at_ n := ⟨_, rfl⟩
  rw [← hk]
  have hkn : k ≤ n := by rw [hk]; unfold clampI; omega
  have hmm : min (max at_ 0) (n : Int) = (k : Int) := by rw [hk]; exact clamp_eq at_ n
  obtain ⟨m, hm⟩ : ∃ m, m = l.take k := ⟨_, rfl⟩
  have hB := h.take k hkn
  rw [← hm] at hB ⊢
  have HB := Lib.hid hB
  have hml : m.length ≤ k := by rw [hm]; exact List.length_take_le _ _
  clear h hB hk hm
  have hct := count_any (HB.out.below ((Below.refl _ w).alloc (Nat.le_refl _) (.cells #[.int .u8 10] 5))) c w.heap.size 0 1 (by rw [cell_marked]; rfl)
  have hla := lastIndex_any (HB.out.below ((Below.refl _ w).alloc (Nat.le_refl _) (.cells #[.int .u8 10] 5))) c (by omega)
  obtain ⟨q, hq⟩ : ∃ q, q = Lib.countByte m 10 := ⟨_, rfl⟩
  have hq2 := placeL_line m
  have hbd := placeL_bd m
  rw [← hq] at hq2 hct
  have HQ := Lib.hid hq2
  have hq3 : q ≤ k := by omega
  clear hq hq2 hbd
  go_enter Try.func55, Try.ntmps55
  go_wp2_with (first | (go_at_call 77; refine hct.mono ?_; rintro e w' ⟨rfl, rfl⟩) | (go_at_call 78; refine hla.mono ?_; rintro e w' ⟨j, hj, rfl, rfl⟩; have hj1 := hj.bd.1; have hj2 := hj.bd.2; have Hj := Lib.hid hj; clear hj))
  go_ret2
  refine ⟨?_, (Below.refl _ w).alloc (Nat.le_refl _) _⟩
  have e1 : ((placeL m).1 : Int) = (q : Int) + 1 := by rw [HQ.out]; omega
  have e2 : ((placeL m).2 : Int) = (k : Int) - j := by rw [Hj.out.col, HB.out.len]
  rw [e1, e2]
  rfl

/-- a struct of four cells that was made, behind calls that make memory -/
theorem new4 {W w' : World} {g : Nat} {x0 x1 x2 x3 : Value} {t : TypeId} (hg : W.heap[g]? = some (.cells #[x0, x1, x2, x3] t)) (hb : Below W.heap.size W w') :
    (w'.cell? ⟨g, 0, none⟩ = some x0 ∧ w'.cell? ⟨g, 1, none⟩ = some x1 ∧ w'.cell? ⟨g, 2, none⟩ = some x2 ∧ w'.cell? ⟨g, 3, none⟩ = some x3) ∧
    (w'.frozen? ⟨g, 0, none⟩ = false ∧ w'.frozen? ⟨g, 1, none⟩ = false ∧ w'.frozen? ⟨g, 2, none⟩ = false ∧ w'.frozen? ⟨g, 3, none⟩ = false) ∧ g < w'.heap.size := by
  have hlt : g < W.heap.size := (Array.getElem?_eq_some_iff.1 hg).1
  have h2 := (hb.block g hlt).trans hg
  have hc := fun i => cell_of_row w' g i _ _ (0, 0) h2
  refine ⟨⟨hc 0, hc 1, hc 2, hc 3⟩, ?_, by have := hb.size; omega⟩
  refine ⟨?_, ?_, ?_, ?_⟩ <;> simp [World.frozen?, h2]

/-- a fault as a struct -/
def faultV (e p : Int) (q : Nat × Nat) : Value := .agg #[.int .i64 e, .int .i64 p, .int .i64 q.1, .int .i64 q.2]

set_option maxRecDepth 100000 in
set_option maxHeartbeats 1000000 in
theorem fault_any (h : BytesAt w A n l) (c : Nat) (hc : n ≤ c) (hn : n ≤ 1000000) (er at_ : Int) (h1 : -9223372036854775808 ≤ at_) (h2 : at_ ≤ 9223372036854775807) :
    Calls Try.prog 34 #[.slice A n c, .int .i64 er, .int .i64 at_] w fun e w' => e = .returned (faultV er at_ (placeL (l.take (clampI at_ n)))) ∧ Below w.heap.size w w' := by
  have hp := place_any (h.below ((Below.refl _ w).alloc (Nat.le_refl _) (.cells #[.int .i64 0, .int .i64 0, .int .i64 0, .int .i64 0] 49))) c hc hn at_ h1 h2
  obtain ⟨⟨q1, q2⟩, hq⟩ : ∃ q, q = placeL (l.take (clampI at_ n)) := ⟨_, rfl⟩
  rw [← hq] at hp ⊢
  clear h hq
  go_enter Try.func34, Try.ntmps34
  go_wp2_with (go_at_call 55; refine hp.mono ?_; rintro e w' ⟨rfl, hb⟩; obtain ⟨⟨c0, c1, c2, c3⟩, ⟨f0, f1, f2, f3⟩, hlt⟩ := new4 (heap_alloc_new w _) hb; have Hb := Lib.hid hb; clear hb)
  exact bodyPost_ret (v := faultV er at_ (q1, q2)) (by simp [results, Try.results34, go_sem, faultV, c0, c1, c2, c3]) rfl ⟨rfl, (((((((Below.refl _ w).alloc (Nat.le_refl _) _).trans (Hb.out.mono (by simp))).setCell (by simp) _).setCell (by simp) _).setCell (by simp) _).setCell (by simp) _)⟩

set_option maxRecDepth 100000 in
set_option maxHeartbeats 1000000 in
theorem rplace_any (h : BytesAt w A n l) (c : Nat) (k : Nat) (hk : k ≤ n) (hn : n ≤ 1000000) :
    Calls Try.prog 28 #[.slice A n c, .int .i64 k] w fun e w' => e = .returned (.tuple #[.int .i64 (placeL (l.take k)).1, .int .i64 (placeL (l.take k)).2]) ∧ w = w' := by
  have H := Lib.hid h
  clear h
  go_enter Try.func28, Try.ntmps28
  go_wp2
  go_loop [6, 7, 8] (fun a b t => ∃ i : Nat, ∃ q : Nat × Nat, i ≤ k ∧ t = .int .i64 i ∧ a = .int .i64 q.1 ∧ b = .int .i64 q.2 ∧ q = placeL (l.take i)) (fun _ _ t => k - (intOf t).toNat)
  case atStart => exact ⟨0, (1, 1), by omega, rfl, rfl, rfl, by simp [placeL]⟩
  case round =>
    obtain ⟨i, ⟨q1, q2⟩, hi, rfl, rfl, rfl, hq⟩ := hrel
    have hbd := placeL_bd (l.take i)
    rw [← hq] at hbd
    have hlt : (l.take i).length ≤ i := List.length_take_le _ _
    obtain ⟨b1, b2, b3, b4⟩ := hbd
    simp only at b1 b2 b3 b4
    have Hq := Lib.hid hq
    clear hq
    by_cases hik : i < k
    · obtain ⟨b, off, x, hA, hb, hx, hd, hc⟩ := H.out.at_ (k := i) (by omega)
      subst hA
      have HS : Hid (placeL (l.take (i + 1)) = if x.toNat = 10 then (q1 + 1, 1) else (q1, q2 + 1)) := Lib.hid (by
        rw [List.take_add_one, hx]
        simp only [Option.toList]
        rw [placeL_snoc, ← Hq.out])
      obtain ⟨z, hz⟩ : ∃ z, z = zi x := ⟨_, rfl⟩
      rw [← hz] at hc
      have Hz := Lib.hid hz
      have hin : (i : Int) < (n : Int) := by omega
      have hin2 : i < n := by omega
      clear hz hd hx
      by_cases hten : z = 10
      · subst hten
        have ht : Hid (x.toNat = 10) := Lib.hid (by have := Hz.out; unfold zi at this; omega)
        go_wp2
        go_round
        case rel => exact ⟨i + 1, (q1 + 1, 1), by omega, by go_num, by go_num, rfl, by rw [HS.out, if_pos ht.out]⟩
        case measure => simp [intOf]; omega
      · have hb1 : (z == 10) = false := by simpa using hten
        have ht : Hid (¬ x.toNat = 10) := Lib.hid (fun e => hten (by rw [Hz.out]; unfold zi; omega))
        go_wp2
        go_round
        case rel => exact ⟨i + 1, (q1, q2 + 1), by omega, by go_num, rfl, by go_num, by rw [HS.out, if_neg ht.out]⟩
        case measure => simp [intOf]; omega
    · obtain rfl : k = i := by omega
      go_wp2
      go_ret2
      exact ⟨by rw [← Hq.out]; rfl, rfl⟩

end

end Go.Proofs.Ytfiielibnnodkaa

/-! ## LexSkip -/
namespace Go.Proofs.Ytfiielibnnodkaa
open Go.RowKit
set_option linter.unusedVariables false

/-- neither blank nor a comment's first byte -/
def bareB (x : UInt8) : Bool := !isBlank x && !(x.toNat == 35)

/-- where skip stops -/
structure Skipped (l : List UInt8) (at_ k : Nat) : Prop where
  ge : at_ ≤ k
  le : k ≤ l.length
  same : lexL at_ (l.drop at_) = lexL k (l.drop k)
  bare : ∀ x, l[k]? = some x → bareB x = true

section
variable {w : World} {A : Option Addr} {n : Nat} {l : List UInt8}

theorem zi_eq {x : UInt8} {m : Nat} (h : zi x = (m : Int)) : x.toNat = m := by unfold zi at h; omega

theorem blank_of {x : UInt8} {m : Nat} (h : zi x = (m : Int)) (hm : m = 32 ∨ m = 9 ∨ m = 13 ∨ m = 10) : isBlank x = true := by
  have := zi_eq h
  unfold isBlank
  simp
  omega

set_option maxRecDepth 100000 in
set_option maxHeartbeats 2000000 in
theorem skip_any (h : BytesAt w A n l) (c : Nat) (hc : n ≤ c) (hn : n ≤ 1000000) (a : Nat) (ha : a ≤ n) :
    Calls Try.prog 51 #[.slice A n c, .int .i64 a] w fun e w' => ∃ k : Nat, Skipped l a k ∧ e = .returned (.int .i64 k) ∧ w = w' := by
  have H := Lib.hid h
  clear h
  go_enter Try.func51, Try.ntmps51
  go_wp2
  go_loop [1] (fun t => ∃ k : Nat, a ≤ k ∧ k ≤ n ∧ t = .int .i64 k ∧ lexL a (l.drop a) = lexL k (l.drop k)) (fun t => n - (intOf t).toNat)
  case atStart => exact ⟨a, by omega, ha, rfl, rfl⟩
  case round =>
    obtain ⟨k, hak, hkn, rfl, hsame⟩ := hrel
    have HS := Lib.hid hsame
    clear hsame
    by_cases hlt : k < n
    · obtain ⟨b, off, x, hA, hb, hx, hd, hce⟩ := H.out.at_ hlt
      subst hA
      obtain ⟨z, hz⟩ : ∃ z, z = zi x := ⟨_, rfl⟩
      rw [← hz] at hce
      have Hz := Lib.hid hz
      have Hd := Lib.hid hd
      have Hx := Lib.hid hx
      clear hz hd hx
      have hlti : (k : Int) < (n : Int) := by omega
      by_cases hblank : z = 32 ∨ z = 9 ∨ z = 13 ∨ z = 10
      · have HB : Hid (lexL a (l.drop a) = lexL (k + 1) (l.drop (k + 1))) := Lib.hid (by
          rw [HS.out, Hd.out, lex_blank k x _ ?_]
          rcases hblank with e | e | e | e <;> rw [Hz.out] at e
          · exact blank_of (m := 32) e (by omega)
          · exact blank_of (m := 9) e (by omega)
          · exact blank_of (m := 13) e (by omega)
          · exact blank_of (m := 10) e (by omega))
        rcases hblank with rfl | rfl | rfl | rfl
        all_goals
          go_wp2
          go_round
          case rel => exact ⟨k + 1, by omega, by omega, by go_num, HB.out⟩
          case measure => simp [intOf]; omega
      · have n1 : (z == 32) = false := by simp; omega
        have n2 : (z == 9) = false := by simp; omega
        have n3 : (z == 13) = false := by simp; omega
        have n4 : (z == 10) = false := by simp; omega
        by_cases hh : z = 35
        · subst hh
          have hx35 : Hid (x.toNat = 35) := Lib.hid (zi_eq (m := 35) Hz.out.symm)
          have hix := index_any (H.out.drop k (by omega)) (c - k)
          obtain ⟨q, hq⟩ : ∃ q, q = Lib.indexByte (l.drop k) 10 := ⟨_, rfl⟩
          rw [← hq] at hix
          have Hq := Lib.hid hq
          clear hq hblank
          have hck : ¬ c = k := by omega
          have hck2 : k < c := by omega
          by_cases hneg : q < 0
          · have HE : Hid (lexL a (l.drop a) = lexL n (l.drop n)) := Lib.hid (by
              have h1 := Lib.indexByte_ge (l.drop k) 10
              rw [HS.out, lex_hash_none k _ x _ Hd.out hx35.out (by rw [← Hq.out] at h1 ⊢; omega), List.length_drop, H.out.len, List.drop_of_length_le (by rw [H.out.len]; omega)]
              congr 1
              omega)
            go_wp2_with (go_at_call 66; refine hix.mono ?_; rintro e w' ⟨rfl, rfl⟩)
            go_ret
            exact ⟨n, ⟨by omega, by rw [H.out.len]; omega, HE.out, fun y hy => by
              rw [List.getElem?_eq_none (by rw [H.out.len]; omega)] at hy
              cases hy⟩, rfl, rfl⟩
          · obtain ⟨j, rfl⟩ := Int.eq_ofNat_of_zero_le (show 0 ≤ q by omega)
            obtain ⟨e1, e2, e3⟩ := lex_hash_some k _ x _ Hd.out hx35.out j Hq.out.symm
            have HE : Hid (lexL a (l.drop a) = lexL (k + j) (l.drop (k + j))) := Lib.hid (by rw [HS.out, e1, List.drop_drop])
            rw [List.length_drop, H.out.len] at e3
            clear e1
            go_wp2_with (go_at_call 66; refine hix.mono ?_; rintro e w' ⟨rfl, rfl⟩)
            go_round
            case rel => exact ⟨k + j, by omega, by omega, by go_num, HE.out⟩
            case measure => simp [intOf]; omega
        · have n5 : (z == 35) = false := by simp; omega
          have HE : Hid (bareB x = true) := Lib.hid (by
            have e := Hz.out
            unfold zi at e
            unfold bareB isBlank
            simp
            omega)
          clear hblank
          go_wp2_with fail
          go_ret
          exact ⟨k, ⟨hak, by rw [H.out.len]; omega, HS.out, fun y hy => by
            rw [Hx.out] at hy
            injection hy with hy
            subst hy
            exact HE.out⟩, rfl, rfl⟩
    · obtain rfl : n = k := by omega
      go_wp2
      go_ret
      exact ⟨n, ⟨hak, by rw [H.out.len]; omega, HS.out, fun y hy => by
        rw [List.getElem?_eq_none (by rw [H.out.len]; omega)] at hy
        cases hy⟩, rfl, rfl⟩

end

end Go.Proofs.Ytfiielibnnodkaa

/-! ## LexRun -/
namespace Go.Proofs.Ytfiielibnnodkaa
open Go.RowKit
set_option linter.unusedVariables false

section
variable {w : World} {A : Option Addr} {n : Nat} {l : List UInt8}

set_option maxRecDepth 100000 in
set_option maxHeartbeats 2000000 in
theorem run_word (h : BytesAt w A n l) (c : Nat) (hc : n ≤ c) (hn : n ≤ 1000000) :
    Calls Try.prog 68 #[.slice A n c, .func (.func 69) #[] #[]] w fun e w' => e = .returned (.string (bs (l.takeWhile isWordy))) ∧ w = w' := by
  have H := Lib.hid h
  clear h
  go_enter Try.func68, Try.ntmps68
  go_wp2
  go_loop [5] (fun t => ∃ k : Nat, k ≤ n ∧ t = .int .i64 k ∧ ∀ i (hi : i < l.length), i < k → isWordy l[i] = true) (fun t => n - (intOf t).toNat)
  case atStart => exact ⟨0, by omega, rfl, fun i hi h => by omega⟩
  case round =>
    obtain ⟨k, hkn, rfl, hall⟩ := hrel
    have Hall := Lib.hid hall
    clear hall
    have hstr := (H.out.take k hkn).str c
    obtain ⟨sv, hsv⟩ : ∃ sv, sv = bs (l.take k) := ⟨_, rfl⟩
    rw [← hsv] at hstr
    have Hsv := Lib.hid hsv
    clear hsv
    by_cases hlt : k < n
    · obtain ⟨b, off, x, hA, hb, hx, hd, hce⟩ := H.out.at_ hlt
      subst hA
      obtain ⟨z, hz⟩ : ∃ z, z = zi x := ⟨_, rfl⟩
      rw [← hz] at hce
      have hxl : Hid (∀ hk : k < l.length, l[k] = x) := Lib.hid (fun hk => (List.getElem?_eq_some_iff.1 hx).2)
      obtain ⟨z0, z1⟩ := zi_bd x
      rw [← hz] at z0 z1
      have Hz := Lib.hid hz
      clear hz hd hx
      have hlti : (k : Int) < (n : Int) := by omega
      cases hP : wordyI z with
      | true =>
        go_wp2_with (go_at_call 69; refine (inWord_any _ _).mono ?_; rintro e w' ⟨rfl, rfl⟩)
        go_round
        case rel => exact ⟨k + 1, by omega, by go_num, fun i hi h => by
          by_cases e : i = k
          · subst e
            rw [hxl.out hi, ← wordy_zi, ← Hz.out]
            exact hP
          · exact Hall.out i hi (by omega)⟩
        case measure => simp [intOf]; omega
      | false =>
        go_wp2_with (go_at_call 69; refine (inWord_any _ _).mono ?_; rintro e w' ⟨rfl, rfl⟩)
        go_ret
        refine ⟨?_, rfl⟩
        rw [(take_len l k (by rw [H.out.len]; omega) Hall.out (fun hk => by rw [hxl.out hk, ← wordy_zi, ← Hz.out]; exact hP)).1, ← Hsv.out]
        rfl
    · have hge : ¬ (k : Int) < (n : Int) := by omega
      go_wp2_with fail
      go_ret
      refine ⟨?_, rfl⟩
      rw [(take_len l k (by rw [H.out.len]; omega) Hall.out (fun hk => by rw [H.out.len] at hk; omega)).1, ← Hsv.out]
      rfl

set_option maxRecDepth 100000 in
set_option maxHeartbeats 2000000 in
theorem run_digits (h : BytesAt w A n l) (c : Nat) (hc : n ≤ c) (hn : n ≤ 1000000) :
    Calls Try.prog 68 #[.slice A n c, .func (.func 70) #[] #[]] w fun e w' => e = .returned (.string (bs (l.takeWhile isDigit))) ∧ w = w' := by
  have H := Lib.hid h
  clear h
  go_enter Try.func68, Try.ntmps68
  go_wp2
  go_loop [5] (fun t => ∃ k : Nat, k ≤ n ∧ t = .int .i64 k ∧ ∀ i (hi : i < l.length), i < k → isDigit l[i] = true) (fun t => n - (intOf t).toNat)
  case atStart => exact ⟨0, by omega, rfl, fun i hi h => by omega⟩
  case round =>
    obtain ⟨k, hkn, rfl, hall⟩ := hrel
    have Hall := Lib.hid hall
    clear hall
    have hstr := (H.out.take k hkn).str c
    obtain ⟨sv, hsv⟩ : ∃ sv, sv = bs (l.take k) := ⟨_, rfl⟩
    rw [← hsv] at hstr
    have Hsv := Lib.hid hsv
    clear hsv
    by_cases hlt : k < n
    · obtain ⟨b, off, x, hA, hb, hx, hd, hce⟩ := H.out.at_ hlt
      subst hA
      obtain ⟨z, hz⟩ : ∃ z, z = zi x := ⟨_, rfl⟩
      rw [← hz] at hce
      have hxl : Hid (∀ hk : k < l.length, l[k] = x) := Lib.hid (fun hk => (List.getElem?_eq_some_iff.1 hx).2)
      obtain ⟨z0, z1⟩ := zi_bd x
      rw [← hz] at z0 z1
      have Hz := Lib.hid hz
      clear hz hd hx
      have hlti : (k : Int) < (n : Int) := by omega
      cases hP : digitI z with
      | true =>
        go_wp2_with (go_at_call 70; refine (digit_any _ _).mono ?_; rintro e w' ⟨rfl, rfl⟩)
        go_round
        case rel => exact ⟨k + 1, by omega, by go_num, fun i hi h => by
          by_cases e : i = k
          · subst e
            rw [hxl.out hi, ← digit_zi, ← Hz.out]
            exact hP
          · exact Hall.out i hi (by omega)⟩
        case measure => simp [intOf]; omega
      | false =>
        go_wp2_with (go_at_call 70; refine (digit_any _ _).mono ?_; rintro e w' ⟨rfl, rfl⟩)
        go_ret
        refine ⟨?_, rfl⟩
        rw [(take_len l k (by rw [H.out.len]; omega) Hall.out (fun hk => by rw [hxl.out hk, ← digit_zi, ← Hz.out]; exact hP)).1, ← Hsv.out]
        rfl
    · have hge : ¬ (k : Int) < (n : Int) := by omega
      go_wp2_with fail
      go_ret
      refine ⟨?_, rfl⟩
      rw [(take_len l k (by rw [H.out.len]; omega) Hall.out (fun hk => by rw [H.out.len] at hk; omega)).1, ← Hsv.out]
      rfl

theorem valOf_take_le (d : List UInt8) (k : Nat) : valOf (d.take k) ≤ valOf d := by
  have h := valOf_append (d.take k) (d.drop k)
  rw [List.take_append_drop] at h
  have h1 : 1 ≤ 10 ^ (d.drop k).length := Nat.pow_pos (by omega)
  have h2 : valOf (d.take k) * 1 ≤ valOf (d.take k) * 10 ^ (d.drop k).length := Nat.mul_le_mul_left _ h1
  omega

/-- what number answers -/
def numV (v : Nat) : Value := if maxNum < v then .tuple #[.int .i64 0, .bool false] else .tuple #[.int .i64 (v : Int), .bool true]

theorem bs_at (d : List UInt8) (k : Nat) (h : k < (bs d).size) : ∃ hk : k < d.length, (bs d)[k] = d[k] := by
  have hk : k < d.length := by rw [bs_size] at h; exact h
  exact ⟨hk, rfl⟩

set_option maxRecDepth 100000 in
set_option maxHeartbeats 2000000 in
theorem number_any (d : List UInt8) (hd : ∀ x ∈ d, isDigit x = true) (hn : d.length ≤ 1000000) (w : World) :
    Calls Try.prog 71 #[.string (bs d)] w fun e w' => e = .returned (numV (valOf d)) ∧ Below w.heap.size w w' := by
  have Hd := Lib.hid hd
  have Hs := Lib.hid (bs_size d)
  obtain ⟨s, hs⟩ : ∃ s, s = bs d := ⟨_, rfl⟩
  rw [← hs] at Hs ⊢
  have HS := Lib.hid hs
  clear hs hd
  have hss : s.size ≤ 1000000 := by rw [Hs.out]; exact hn
  go_enter Try.func71, Try.ntmps71
  go_wp2
  go_loopw [4] (fun t wr => ∃ k v : Nat, k ≤ s.size ∧ wr = w.iter s k ∧ t = .int .i64 v ∧ v = valOf (d.take k) ∧ v ≤ maxNum) (fun _ wr => s.size - wr.iterPos w.heap.size)
  case atStart => exact ⟨0, 0, by omega, rfl, rfl, rfl, by unfold maxNum; omega⟩
  case round =>
    obtain ⟨k, v, hk, rfl, rfl, hv, hvm⟩ := hrel
    have Hv := Lib.hid hv
    clear hv
    by_cases hlt : k < s.size
    · have hkd : k < d.length := by rw [← Hs.out]; exact hlt
      have hdk := Hd.out d[k] (List.getElem_mem hkd)
      have hb : 48 ≤ d[k].toNat ∧ d[k].toNat ≤ 57 := by simpa [isDigit] using hdk
      have hsk : (s[k]'hlt).toNat = d[k].toNat := by
        have e := HS.out
        subst e
        rfl
      have hnext := fun ty => run_next_ascii (P := Try.prog) w s k ty hlt (by rw [hsk]; omega)
      obtain ⟨z, hz⟩ : ∃ z, z = d[k].toNat := ⟨_, rfl⟩
      rw [← hz] at hsk hb
      rw [hsk] at hnext
      obtain ⟨hb1, hb2⟩ := hb
      have HV : Hid (valOf (d.take (k + 1)) = v * 10 + (z - 48)) := Lib.hid (by
        rw [List.take_succ_eq_append_getElem hkd, valOf_snoc, ← Hv.out, ← hz])
      have Hle := Lib.hid (valOf_take_le d (k + 1))
      unfold maxNum at hvm
      clear hz hdk hsk
      by_cases hbig : 1125899906842624 < v * 10 + (z - 48)
      · have hbi : (1125899906842624 : Int) < 10 * (v : Int) + ((z : Int) - 48) := by omega
        go_wp2
        go_ret2
        refine ⟨?_, ((Below.refl _ w).alloc (Nat.le_refl _) _)⟩
        unfold numV
        rw [if_pos (by have := Hle.out; rw [HV.out] at this; unfold maxNum; omega)]
        rfl
      · have hbi : ¬ (1125899906842624 : Int) < 10 * (v : Int) + ((z : Int) - 48) := by omega
        go_wp2
        go_roundw
        case rel => exact ⟨k + 1, v * 10 + (z - 48), by omega, rfl, by congr 1; omega, HV.out.symm, by unfold maxNum; omega⟩
        case measure => simp; omega
    · obtain rfl : k = s.size := by omega
      have hnext := fun ty => run_next_end (P := Try.prog) w s s.size ty hlt
      go_wp2
      go_ret2
      refine ⟨?_, ((Below.refl _ w).alloc (Nat.le_refl _) _)⟩
      have e : v = valOf d := by
        rw [Hv.out, Hs.out, List.take_length]
      unfold numV
      rw [if_neg (by rw [← e]; omega), ← e]
      rfl

end

end Go.Proofs.Ytfiielibnnodkaa

/-! ## LexRead -/
namespace Go.Proofs.Ytfiielibnnodkaa
open Go.RowKit
set_option linter.unusedVariables false

/-- a token as a struct -/
def tokV (t : Tok) : Value := .agg #[.int .u8 (t.kind : Int), .string (bs t.text), .int .i64 (t.num : Int), .int .i64 (t.at_ : Int)]

/-- what read answers -/
def readV (r : Except Nat Tok) : Value :=
  match r with
  | .ok t => .tuple #[tokV t, .int .i64 0]
  | .error e => .tuple #[tokV ⟨0, [], 0, 0⟩, .int .i64 (e : Int)]

/-- the world with a struct of a token in it -/
abbrev tokNew (w : World) : World := w.alloc (.cells #[.int .u8 0, .string { data := #[] }, .int .i64 0, .int .i64 0] 81)

section
variable {w : World} {n : Nat} {l : List UInt8}

theorem take_small {x : UInt8} {r : List UInt8} (h : isSmall x = true) : (x :: r).takeWhile isWordy = x :: r.takeWhile isWordy := by
  have : isWordy x = true := by simp [isWordy, h]
  simp [this]

theorem take_digit {x : UInt8} {r : List UInt8} (h : isDigit x = true) : (x :: r).takeWhile isDigit = x :: r.takeWhile isDigit := by
  simp [h]

set_option maxRecDepth 100000 in
set_option maxHeartbeats 4000000 in
theorem read_any {b off : Nat} (h : BytesAt w (some ⟨b, off, none⟩) n l) (c : Nat) (hc : n ≤ c) (hn : n ≤ 1000000) (a : Nat) (ha : a < n) (x : UInt8) (r : List UInt8) (hx : l.drop a = x :: r) :
    Calls Try.prog 52 #[.slice (some ⟨b, off, none⟩) n c, .int .i64 a] w fun e w' => e = .returned (readV (readL a x r)) ∧ Below w.heap.size w w' := by
  have hN := h.below ((Below.refl _ w).alloc (Nat.le_refl _) (.cells #[.int .u8 0, .string { data := #[] }, .int .i64 0, .int .i64 0] 81))
  obtain ⟨b', off', x', hA, hb, hx2, hd, hce⟩ := hN.at_ ha
  injection hA with hA
  injection hA with e1 e2
  subst e1; subst e2
  rw [hx] at hd
  injection hd with e1 e2
  subst e1
  have hD := hN.drop a (by omega)
  rw [hx] at hD
  have HD := Lib.hid hD
  obtain ⟨z, hz⟩ : ∃ z, z = zi x := ⟨_, rfl⟩
  rw [← hz] at hce
  obtain ⟨z0, z1⟩ := zi_bd x
  rw [← hz] at z0 z1
  have Hz := Lib.hid hz
  have hac : ¬ c = a := by omega
  have hac2 : a < c := by omega
  clear h hN hx hx2 hb hz hD e2
  have HR : Hid (readL a x r = if isSmall x then .ok ⟨1, x :: r.takeWhile isWordy, 0, a⟩
    else if isDigit x then
      if maxNum < valOf (x :: r.takeWhile isDigit) then .error 3 else .ok ⟨2, x :: r.takeWhile isDigit, valOf (x :: r.takeWhile isDigit), a⟩
    else if isSign x then .ok ⟨3, [x], 0, a⟩
    else if x.toNat = 45 ∧ (r.head?.map UInt8.toNat) = some 62 then .ok ⟨3, [45, 62], 0, a⟩
    else .error 6) := Lib.hid rfl
  cases h1 : smallI z with
  | true =>
    have hs : isSmall x = true := by rw [← small_zi, ← Hz.out]; exact h1
    have hrun := run_word HD.out (c - a) (by omega) (by omega)
    rw [take_small hs] at hrun
    obtain ⟨sv, hsv⟩ : ∃ sv, sv = bs (x :: r.takeWhile isWordy) := ⟨_, rfl⟩
    rw [← hsv] at hrun
    have HE : Hid (readV (readL a x r) = .tuple #[.agg #[.int .u8 1, .string sv, .int .i64 0, .int .i64 (a : Int)], .int .i64 0]) := Lib.hid (by rw [HR.out, if_pos hs, hsv]; rfl)
    clear hs hsv
    go_enter Try.func52, Try.ntmps52
    go_wp2_with (first | (go_at_call 67; refine (letter_any _ _).mono ?_; rintro e w' ⟨rfl, rfl⟩) | (go_at_call 68; refine hrun.mono ?_; rintro e w' ⟨rfl, rfl⟩))
    exact bodyPost_ret (v := .tuple #[.agg #[.int .u8 1, .string sv, .int .i64 0, .int .i64 (a : Int)], .int .i64 0]) (by simp [results, Try.results52, go_sem]) rfl ⟨by rw [HE.out], (Below.refl _ w).alloc (Nat.le_refl _) _⟩
  | false =>
    have hs1 : Hid (¬ isSmall x = true) := Lib.hid (by rw [← small_zi, ← Hz.out, h1]; simp)
    cases h2 : digitI z with
    | true =>
      have hs : isDigit x = true := by rw [← digit_zi, ← Hz.out]; exact h2
      have hrun := run_digits HD.out (c - a) (by omega) (by omega)
      rw [take_digit hs] at hrun
      have hlen : (x :: r.takeWhile isDigit).length ≤ 1000000 := by
        have h3 := HD.out.len
        have h4 := (List.takeWhile_sublist (p := isDigit) (l := r)).length_le
        simp at h3 ⊢
        omega
      have hall : ∀ y ∈ x :: r.takeWhile isDigit, isDigit y = true := by
        intro y hy
        rcases List.mem_cons.1 hy with rfl | hy
        · exact hs
        · exact takeWhile_mem r y hy
      have hnum := number_any (x :: r.takeWhile isDigit) hall hlen (tokNew w)
      obtain ⟨sv, hsv⟩ : ∃ sv, sv = bs (x :: r.takeWhile isDigit) := ⟨_, rfl⟩
      obtain ⟨v, hv⟩ : ∃ v, v = valOf (x :: r.takeWhile isDigit) := ⟨_, rfl⟩
      rw [← hsv] at hrun hnum
      rw [← hv] at hnum
      by_cases hbig : maxNum < v
      · have HE : Hid (readV (readL a x r) = .tuple #[.agg #[.int .u8 0, .string { data := #[] }, .int .i64 0, .int .i64 0], .int .i64 3]) := Lib.hid (by rw [HR.out, if_neg hs1.out, if_pos hs, if_pos (by rw [← hv]; exact hbig)]; rfl)
        have e : numV v = .tuple #[.int .i64 0, .bool false] := by unfold numV; rw [if_pos hbig]
        rw [e] at hnum
        clear hs hsv hv hlen hall e hbig
        go_enter Try.func52, Try.ntmps52
        go_wp2_with (first | (go_at_call 67; refine (letter_any _ _).mono ?_; rintro e w' ⟨rfl, rfl⟩) | (go_at_call 70; refine (digit_any _ _).mono ?_; rintro e w' ⟨rfl, rfl⟩) | (go_at_call 68; refine hrun.mono ?_; rintro e w' ⟨rfl, rfl⟩) | (go_at_call 71; refine hnum.mono ?_; rintro e w' ⟨rfl, hb⟩; obtain ⟨⟨c0, c1, c2, c3⟩, ⟨f0, f1, f2, f3⟩, hlt⟩ := new4 (heap_alloc_new w _) hb; have Hb := Lib.hid hb; clear hb))
        exact bodyPost_ret (v := .tuple #[.agg #[.int .u8 0, .string { data := #[] }, .int .i64 0, .int .i64 0], .int .i64 3]) (by simp [results, Try.results52, go_sem, c0, c1, c2, c3]) rfl ⟨by rw [HE.out], (((((((Below.refl _ w).alloc (Nat.le_refl _) _).trans (Hb.out.mono (by simp))).setCell (by simp) _).setCell (by simp) _).setCell (by simp) _).setCell (by simp) _)⟩
      · have HE : Hid (readV (readL a x r) = .tuple #[.agg #[.int .u8 2, .string sv, .int .i64 (v : Int), .int .i64 (a : Int)], .int .i64 0]) := Lib.hid (by rw [HR.out, if_neg hs1.out, if_pos hs, if_neg (by rw [← hv]; exact hbig), hsv, hv]; rfl)
        have e : numV v = .tuple #[.int .i64 (v : Int), .bool true] := by unfold numV; rw [if_neg hbig]
        rw [e] at hnum
        clear hs hsv hv hlen hall e hbig
        go_enter Try.func52, Try.ntmps52
        go_wp2_with (first | (go_at_call 67; refine (letter_any _ _).mono ?_; rintro e w' ⟨rfl, rfl⟩) | (go_at_call 70; refine (digit_any _ _).mono ?_; rintro e w' ⟨rfl, rfl⟩) | (go_at_call 68; refine hrun.mono ?_; rintro e w' ⟨rfl, rfl⟩) | (go_at_call 71; refine hnum.mono ?_; rintro e w' ⟨rfl, hb⟩; obtain ⟨⟨c0, c1, c2, c3⟩, ⟨f0, f1, f2, f3⟩, hlt⟩ := new4 (heap_alloc_new w _) hb; have Hb := Lib.hid hb; clear hb))
        exact bodyPost_ret (v := .tuple #[.agg #[.int .u8 2, .string sv, .int .i64 (v : Int), .int .i64 (a : Int)], .int .i64 0]) (by simp [results, Try.results52, go_sem, c0, c1, c2, c3]) rfl ⟨by rw [HE.out], (((((((Below.refl _ w).alloc (Nat.le_refl _) _).trans (Hb.out.mono (by simp))).setCell (by simp) _).setCell (by simp) _).setCell (by simp) _).setCell (by simp) _)⟩
    | false =>
      have hs2 : Hid (¬ isDigit x = true) := Lib.hid (by rw [← digit_zi, ← Hz.out, h2]; simp)
      have hsg := signs_any z (tokNew w) z0 (by omega)
      cases h3 : signI z with
      | true =>
        have hs : isSign x = true := by rw [← sign_zi, ← Hz.out]; exact h3
        have he : Utf8.encode z = bs [x] := by
          have h128 : x.toNat < 128 := by
            have := hs
            simp [isSign] at this
            omega
          have hz2 : z.toNat = x.toNat := by rw [Hz.out]; unfold zi; omega
          have hv : Utf8.valid z = true := by rw [validRune_eq]; unfold validRune; exact decide_eq_true (.inl ⟨by omega, by omega⟩)
          unfold Utf8.encode
          simp only [hv, if_true]
          rw [if_pos (by omega)]
          rw [hz2]
          simp [bs]
        obtain ⟨sv, hsv⟩ : ∃ sv, sv = bs [x] := ⟨_, rfl⟩
        rw [← hsv] at he
        have HE : Hid (readV (readL a x r) = .tuple #[.agg #[.int .u8 3, .string sv, .int .i64 0, .int .i64 (a : Int)], .int .i64 0]) := Lib.hid (by rw [HR.out, if_neg hs1.out, if_neg hs2.out, if_pos hs, hsv]; rfl)
        rw [h3] at hsg
        clear hs hsv
        go_enter Try.func52, Try.ntmps52
        go_wp2_with (first | (go_at_call 67; refine (letter_any _ _).mono ?_; rintro e w' ⟨rfl, rfl⟩) | (go_at_call 70; refine (digit_any _ _).mono ?_; rintro e w' ⟨rfl, rfl⟩) | (go_at_call 72; refine hsg.mono ?_; rintro e w' ⟨rfl, q, rfl⟩))
        exact bodyPost_ret (v := .tuple #[.agg #[.int .u8 3, .string sv, .int .i64 0, .int .i64 (a : Int)], .int .i64 0]) (by simp [results, Try.results52, go_sem]) rfl ⟨by rw [HE.out], ((((below_drews ((Below.refl _ w).alloc (Nat.le_refl _) _) q).setCell (by simp) _).setCell (by simp) _).setCell (by simp) _).setCell (by simp) _⟩
      | false =>
        have hs3 : Hid (¬ isSign x = true) := Lib.hid (by rw [← sign_zi, ← Hz.out, h3]; simp)
        have kc : ∀ q, (convert 22 22 (.slice (some ⟨w.heap.size + 1, 0, none⟩) 2 2)).run Try.prog (((tokNew w).drewN q).alloc (.cells #[.int .u8 45, .int .u8 62] 5)) = .ok (.slice (some ⟨w.heap.size + 1, 0, none⟩) 2 2) (((tokNew w).drewN q).alloc (.cells #[.int .u8 45, .int .u8 62] 5 (2, 3))) := fun q => by
          have e := Lib.run_convert_bytes_const (P := Try.prog) ((tokNew w).drewN q) 22 5 #[.int .u8 45, .int .u8 62] 2 2 Try.underlying22 Try.underlying5
          have e2 : ((tokNew w).drewN q).heap.size = w.heap.size + 1 := by simp
          rw [e2] at e
          exact e
        have hpr := fun q => prefix_any (w := ((tokNew w).drewN q).alloc (.cells #[.int .u8 45, .int .u8 62] 5 (2, 3))) (B := some ⟨w.heap.size + 1, 0, none⟩) ((HD.out.drewN q).below ((Below.refl _ _).alloc (Nat.le_refl _) _)) ⟨rfl, fun _ => ⟨_, _, rfl, by simp, fun i y hy => by
          have e := cell_marked ((tokNew w).drewN q) #[.int .u8 45, .int .u8 62] 5 (2, 3) i
          have e2 : ((tokNew w).drewN q).heap.size = w.heap.size + 1 := by simp
          rw [e2] at e
          rw [Nat.zero_add, e]
          match i, hy with
          | 0, hy => simp at hy; subst hy; rfl
          | 1, hy => simp at hy; subst hy; rfl⟩⟩ (c - a) 2 (by omega)
        rw [h3] at hsg
        cases h4 : arrowB (x :: r) with
        | true =>
          have HE : Hid (readV (readL a x r) = .tuple #[.agg #[.int .u8 3, .string { data := #[45, 62] }, .int .i64 0, .int .i64 (a : Int)], .int .i64 0]) := Lib.hid (by
            rw [HR.out, if_neg hs1.out, if_neg hs2.out, if_neg hs3.out, if_pos]
            · rfl
            · have e := of_decide_eq_true h4
              cases r with
              | nil => simp at e
              | cons y r =>
                simp at e
                obtain ⟨rfl, rfl⟩ := e
                simp)
          rw [h4] at hpr
          go_enter Try.func52, Try.ntmps52
          go_wp2_with (first | (go_at_call 67; refine (letter_any _ _).mono ?_; rintro e w' ⟨rfl, rfl⟩) | (go_at_call 70; refine (digit_any _ _).mono ?_; rintro e w' ⟨rfl, rfl⟩) | (go_at_call 72; refine hsg.mono ?_; rintro e w' ⟨rfl, q, rfl⟩) | (go_at_call 73; refine (hpr _).mono ?_; rintro e w' ⟨rfl, rfl⟩))
          refine bodyPost_ret (v := .tuple #[.agg #[.int .u8 3, .string { data := #[45, 62] }, .int .i64 0, .int .i64 (a : Int)], .int .i64 0]) (by simp [results, Try.results52, go_sem]) rfl ⟨by rw [HE.out], ?_⟩
          refine Below.alloc ?_ (by simp) _
          exact ((((below_drews ((Below.refl _ w).alloc (Nat.le_refl _) _) q).setCell (by simp) _).setCell (by simp) _).setCell (by simp) _).setCell (by simp) _
        | false =>
          have HE : Hid (readV (readL a x r) = .tuple #[.agg #[.int .u8 0, .string { data := #[] }, .int .i64 0, .int .i64 0], .int .i64 6]) := Lib.hid (by
            rw [HR.out, if_neg hs1.out, if_neg hs2.out, if_neg hs3.out, if_neg]
            · rfl
            · rintro ⟨e1, e2⟩
              cases r with
              | nil => simp at e2
              | cons y r =>
                simp at e2
                have e3 : x = 45 := UInt8.toNat_inj.1 e1
                have e4 : y = 62 := UInt8.toNat_inj.1 e2
                subst e3; subst e4
                simp [arrowB] at h4)
          rw [h4] at hpr
          go_enter Try.func52, Try.ntmps52
          go_wp2_with (first | (go_at_call 67; refine (letter_any _ _).mono ?_; rintro e w' ⟨rfl, rfl⟩) | (go_at_call 70; refine (digit_any _ _).mono ?_; rintro e w' ⟨rfl, rfl⟩) | (go_at_call 72; refine hsg.mono ?_; rintro e w' ⟨rfl, q, rfl⟩) | (go_at_call 73; refine (hpr _).mono ?_; rintro e w' ⟨rfl, rfl⟩))
          refine bodyPost_ret (v := .tuple #[.agg #[.int .u8 0, .string { data := #[] }, .int .i64 0, .int .i64 0], .int .i64 6]) (by simp [results, Try.results52, go_sem]) rfl ⟨by rw [HE.out], ?_⟩
          refine Below.alloc ?_ (by simp) _
          exact ((((below_drews ((Below.refl _ w).alloc (Nat.le_refl _) _) q).setCell (by simp) _).setCell (by simp) _).setCell (by simp) _).setCell (by simp) _

end

end Go.Proofs.Ytfiielibnnodkaa
