/-
  What lex takes of package bytes: how many ends of line there are, the first and the last one; whether an arrow stands ahead.
  Conditions: none beyond each theorem's own.
-/
import Derived.Test.YtoicmoodhblflaaLexSmall
import Derived.Shelf.Bytes.SlCountOne
namespace Go.Proofs.Ytoicmoodhblflaa
open Go.RowKit
set_option linter.unusedVariables false

section
variable {w : World} {A : Option Addr} {n c : Nat} {l : List UInt8}

theorem BytesAt.count_run (h : BytesAt w A n l) (c : Nat) : (Extern.BytealgCount.count #[.slice A n c, .int .u8 10]).run Try.prog w = .ok (.int .i64 (Lib.countByte l 10 : Nat)) w := by
  rcases Nat.eq_zero_or_pos n with h0 | h0
  · subst h0
    have hl : l = [] := List.eq_nil_of_length_eq_zero h.len
    subst hl
    cases A with
    | none => exact Lib.run_countNil w 0 c 10
    | some a => exact Lib.run_countAt w a 0 c [] rfl (fun i hi => by omega) 10
  · obtain ⟨b, off, rfl, hb, hc⟩ := h.cells h0
    obtain ⟨h1, h2, h3⟩ := h.nums
    have := Lib.run_countSlice (P := Try.prog) w b off n c (l.map zi) h1 h2 10
    rw [h3] at this
    exact this

set_option maxRecDepth 100000 in
theorem count_any (h : BytesAt w A n l) (c b2 o2 d : Nat) (hs : w.cell? ⟨b2, o2, none⟩ = some (.int .u8 10)) :
    Calls Try.prog 84 #[.slice A n c, .slice (some ⟨b2, o2, none⟩) 1 d] w fun e w' => e = .returned (.int .i64 (Lib.countByte l 10 : Nat)) ∧ w = w' := by
  have hr := h.count_run c
  obtain ⟨m, hm⟩ : ∃ m, m = Lib.countByte l 10 := ⟨_, rfl⟩
  rw [← hm] at hr
  have Hm := Lib.hid hm
  clear hm h
  go_enter Try.func84, Try.ntmps84
  go_wp2
  rw [run_callFunc_extern Try.func94 (by kernel_rfl) (by kernel_rfl) (by kernel_rfl) (e := Extern.BytealgCount.count) (by kernel_rfl), hr]
  simp only [Result.andThen]
  rw [Oper.upon_value]
  go_wp2
  go_ret
  exact ⟨by rw [Hm.out]; rfl, rfl⟩

theorem BytesAt.index_run {b off : Nat} (h : BytesAt w (some ⟨b, off, none⟩) n l) (c : Nat) : (Extern.BytealgIndexByte.indexByte #[.slice (some ⟨b, off, none⟩) n c, .int .u8 10]).run Try.prog w = .ok (.int .i64 (Lib.indexByte l 10)) w := by
  obtain ⟨h1, h2, h3⟩ := h.nums
  have := Lib.run_indexByteSlice (P := Try.prog) w b off n c (l.map zi) h1 h2 10
  rw [h3] at this
  exact this

set_option maxRecDepth 100000 in
theorem index_any {b off : Nat} (h : BytesAt w (some ⟨b, off, none⟩) n l) (c : Nat) :
    Calls Try.prog 75 #[.slice (some ⟨b, off, none⟩) n c, .int .u8 10] w fun e w' => e = .returned (.int .i64 (Lib.indexByte l 10)) ∧ w = w' := by
  have hr := h.index_run c
  obtain ⟨m, hm⟩ : ∃ m, m = Lib.indexByte l 10 := ⟨_, rfl⟩
  rw [← hm] at hr
  have Hm := Lib.hid hm
  clear hm h
  go_enter Try.func75, Try.ntmps75
  go_wp2
  rw [run_callFunc_extern Try.func86 (by kernel_rfl) (by kernel_rfl) (by kernel_rfl) (e := Extern.BytealgIndexByte.indexByte) (by kernel_rfl), hr]
  simp only [Result.andThen]
  rw [Oper.upon_value]
  go_wp2
  go_ret
  exact ⟨by rw [Hm.out]; rfl, rfl⟩

/-- no end of line from place k on -/
def NoNl (l : List UInt8) (k : Nat) : Prop := ∀ c ∈ l.drop k, c.toNat ≠ 10

theorem zi_ten {x : UInt8} (h : zi x = 10) : x = 10 := by
  unfold zi at h
  exact UInt8.toNat_inj.1 (by show x.toNat = 10; omega)

set_option maxRecDepth 100000 in
theorem last_any (h : BytesAt w A n l) (c : Nat) (hn : n ≤ 9000000000000000000) :
    Calls Try.prog 96 #[.slice A n c, .int .u8 10] w fun e w' => ∃ k : Int, LastNl l k ∧ e = .returned (.int .i64 k) ∧ w = w' := by
  have H := Lib.hid h
  clear h
  go_enter Try.func96, Try.ntmps96
  go_wp2
  go_loop [5] (fun t => ∃ i : Int, -1 ≤ i ∧ i < (n : Int) ∧ t = .int .i64 i ∧ NoNl l (i + 1).toNat) (fun t => (intOf t + 1).toNat)
  case atStart => exact ⟨(n : Int) - 1, by omega, by omega, rfl, fun c hc => by
    rw [List.drop_of_length_le (by rw [H.out.len]; omega)] at hc
    cases hc⟩
  case round =>
    obtain ⟨i, h1, h2, rfl, hno⟩ := hrel
    have Hno := Lib.hid hno
    clear hno
    by_cases h0 : 0 ≤ i
    · obtain ⟨k, rfl⟩ := Int.eq_ofNat_of_zero_le h0
      obtain ⟨b, off, x, hA, hb, hx, hd, hc⟩ := H.out.at_ (k := k) (by omega)
      subst hA
      obtain ⟨z, hz⟩ : ∃ z, z = zi x := ⟨_, rfl⟩
      rw [← hz] at hc
      have Hz := Lib.hid hz
      have Hd := Lib.hid hd
      have Hx := Lib.hid hx
      clear hz hd hx h0
      have hkn : k < n := by omega
      by_cases hten : z = 10
      · subst hten
        go_wp2
        go_ret
        refine ⟨_, .inr ⟨l.take k, l.drop (k + 1), ?_, ?_, ?_⟩, rfl, rfl⟩
        · rw [← zi_ten Hz.out.symm, ← Hd.out, List.take_append_drop]
        · have := H.out.len
          rw [List.length_take]; omega
        · have := Hno.out
          unfold NoNl at this
          rw [show ((k : Int) + 1).toNat = k + 1 by omega] at this
          exact this
      · have hb1 : (z == 10) = false := by simpa using hten
        go_wp2
        go_round
        case rel => exact ⟨(k : Int) - 1, by omega, by omega, by go_num, fun c hc => by
          rw [show ((k : Int) - 1 + 1).toNat = k by omega, Hd.out] at hc
          rcases List.mem_cons.1 hc with rfl | hc
          · intro e
            exact hten (by rw [Hz.out]; unfold zi; omega)
          · have := Hno.out
            unfold NoNl at this
            rw [show ((k : Int) + 1).toNat = k + 1 by omega] at this
            exact this c hc⟩
        case measure => simp [intOf]
    · have h0b : i < 0 := by omega
      go_wp2
      go_ret
      refine ⟨-1, .inl ⟨rfl, ?_⟩, rfl, rfl⟩
      have := Hno.out
      unfold NoNl at this
      rw [show (i + 1).toNat = 0 by omega] at this
      simpa using this

end

end Go.Proofs.Ytoicmoodhblflaa
