/-
  The walk of the law ParseWords: for all bytes it returns true.
  Conditions: none beyond the theorem's own.
-/
import Derived.Test.YtfiielibnnodkaaPSames
import Derived.Test.YtfiielibnnodkaaPAwake
import Derived.Test.YtfiielibnnodkaaBytesIn
namespace Go.Proofs.Ytfiielibnnodkaa
open Go.RowKit
set_option linter.unusedVariables false

/-- the words of the table -/
def words27 : List ByteArray := [{ data := #[112, 108, 97, 99, 101, 32, 112, 59] }, { data := #[112, 108, 97, 99, 101, 32, 113, 32, 61, 32, 51, 59] }, { data := #[112, 108, 97, 99, 101] }, { data := #[116, 114, 97, 110, 115, 32, 116, 58] }, { data := #[116, 114, 97, 110, 115, 32, 117, 32, 64, 50, 32, 33, 49, 58] }, { data := #[116, 114, 97, 110, 115] }, { data := #[112] }, { data := #[113] }, { data := #[114] }, { data := #[44] }, { data := #[45, 62] }, { data := #[59] }, { data := #[112, 42, 50] }, { data := #[126, 113, 42, 51] }, { data := #[126] }, { data := #[42] }, { data := #[48] }, { data := #[49, 48, 48, 48, 48, 48, 48] }, { data := #[49, 48, 48, 48, 48, 48, 49] }, { data := #[61] }, { data := #[64] }, { data := #[33] }, { data := #[112, 108, 97, 99, 101, 32, 114, 59] }, { data := #[116, 104, 105, 114, 116, 101, 101, 110, 46, 108, 111, 110, 103] }, { data := #[35, 32, 120, 10] }, { data := #[97, 46, 49] }, { data := #[113, 32, 45, 62, 32, 112, 59] }]
def wordsV : Array Value := #[.string { data := #[112, 108, 97, 99, 101, 32, 112, 59] }, .string { data := #[112, 108, 97, 99, 101, 32, 113, 32, 61, 32, 51, 59] }, .string { data := #[112, 108, 97, 99, 101] }, .string { data := #[116, 114, 97, 110, 115, 32, 116, 58] }, .string { data := #[116, 114, 97, 110, 115, 32, 117, 32, 64, 50, 32, 33, 49, 58] }, .string { data := #[116, 114, 97, 110, 115] }, .string { data := #[112] }, .string { data := #[113] }, .string { data := #[114] }, .string { data := #[44] }, .string { data := #[45, 62] }, .string { data := #[59] }, .string { data := #[112, 42, 50] }, .string { data := #[126, 113, 42, 51] }, .string { data := #[126] }, .string { data := #[42] }, .string { data := #[48] }, .string { data := #[49, 48, 48, 48, 48, 48, 48] }, .string { data := #[49, 48, 48, 48, 48, 48, 49] }, .string { data := #[61] }, .string { data := #[64] }, .string { data := #[33] }, .string { data := #[112, 108, 97, 99, 101, 32, 114, 59] }, .string { data := #[116, 104, 105, 114, 116, 101, 101, 110, 46, 108, 111, 110, 103] }, .string { data := #[35, 32, 120, 10] }, .string { data := #[97, 46, 49] }, .string { data := #[113, 32, 45, 62, 32, 112, 59] }]
theorem words_len : words27.length = 27 := rfl
theorem words_at (q : Nat) (s : ByteArray) (h : words27[q]? = some s) : wordsV[q]? = some (.string s) := by
  have e : wordsV = (words27.map Value.string).toArray := rfl
  rw [e, List.getElem?_toArray, List.getElem?_map, h]
  rfl
theorem words_size : ∀ s ∈ words27, s.size ≤ 14 := by
  intro s hs
  have : words27.all (fun s => decide (s.size ≤ 14)) = true := by decide
  exact of_decide_eq_true (List.all_eq_true.1 this s hs)


set_option maxRecDepth 100000 in
set_option maxHeartbeats 4000000 in
theorem words_law (hR : RParseSays) {w : World} {A : Option Addr} {n : Nat} {l : List UInt8} (h : BytesAt w A n l) (c : Nat) (hc : n ≤ c) (hm : n ≤ 9223372036854775807) :
    Calls Try.prog 5 #[.slice A n c] w fun e w' => e = .returned (.bool true) ∧ Below w.heap.size w w' := by
  have H := Lib.hid h
  have HR := Lib.hid hR
  have hll := h.len
  clear h hR
  by_cases h4 : n ≤ 80
  · have h4i : ¬ (80 : Int) < (n : Int) := by omega
    have h4b : decide ((80 : Int) < (n : Int)) = false := decide_eq_false h4i
    have h4c : decide (80 < n) = false := decide_eq_false (by omega)
    go_enter Try.func5, Try.ntmps5
    go_wp2_with fail
    refine (awake6 _).mono ?_
    rintro e w1 ⟨rfl, hb⟩
    have H1 := Lib.hid (H.out.below hb)
    have Hb := Lib.hid hb
    clear hb H
    go_wp2
    go_loopw [4, 5] (fun s i wr => ∃ k : Nat, k ≤ n ∧ i = .int .i64 k ∧ (∃ S, s = .string S ∧ S.size ≤ k * 20) ∧ Below w1.heap.size w1 wr ∧ w1.heap.size < wr.heap.size ∧ wr.heap[w1.heap.size]? = some (.cells wordsV 9)) (fun _ i _ => n - (intOf i).toNat)
    case atStart => exact ⟨0, by omega, rfl, ⟨_, rfl, Nat.le_refl _⟩, (Below.refl _ _).alloc (Nat.le_refl _) _, by simp, heap_alloc_new w1 _⟩
    case round =>
      obtain ⟨k, hk, rfl, ⟨S, rfl, hS⟩, hB, hg, hW⟩ := hrel
      have HB := Lib.hid hB
      have HW := Lib.hid hW
      have hS2 : S.size ≤ 1600 := by omega
      clear hB hW
      by_cases hlt : k < n
      · have hlti : (k : Int) < (n : Int) := by omega
        obtain ⟨b, off, x, hA, hbw, hx, hdx, hcx⟩ := (H1.out.below HB.out).at_ hlt
        subst hA
        obtain ⟨z, hz⟩ : ∃ z, z = x.toNat := ⟨_, rfl⟩
        have hz255 : z ≤ 255 := by have := x.toNat_lt; omega
        have hzz : zi x = (z : Int) := by rw [hz]; rfl
        rw [hzz] at hcx
        obtain ⟨q, hq⟩ : ∃ q, q = z % 27 := ⟨_, rfl⟩
        have hq27 : q < 27 := by omega
        have hqi : (z : Int) % 27 = (q : Int) := by omega
        obtain ⟨s, hs⟩ := at_lt (l := words27) (k := q) (by rw [words_len]; exact hq27)
        have hcw : wr.cell? ⟨w1.heap.size, q, none⟩ = some (.string s) := by
          rw [cell_of_row _ _ q _ _ (0, 0) HW.out, words_at q s hs]
        have hsz := words_size s (List.mem_of_getElem? hs)
        obtain ⟨s1, hs1⟩ : ∃ s1, s ++ { data := #[32] } = s1 := ⟨_, rfl⟩
        obtain ⟨S', hS'⟩ : ∃ S', S ++ s1 = S' := ⟨_, rfl⟩
        have hs1z : s1.size ≤ 15 := by rw [← hs1, ByteArray.size_append]; have : ({ data := #[32] } : ByteArray).size = 1 := rfl; omega
        have Hsz : Hid (S'.size ≤ (k + 1) * 20) := Lib.hid (by rw [← hS', ByteArray.size_append]; omega)
        clear hx hdx hz hzz hq hs
        go_wp2
        go_roundw
        case rel => exact ⟨k + 1, by omega, by go_num, ⟨S', rfl, Hsz.out⟩, HB.out, hg, HW.out⟩
        case measure => simp [intOf]; omega
      · have hge : ¬ (k : Int) < (n : Int) := by omega
        obtain ⟨bb, cc, w5, hrb, hcc, hBy, b5⟩ := run_bytes_of wr S
        have hsm := same6_any HR.out hBy hcc (by omega)
        have HB5 := Lib.hid (Hb.out.trans ((HB.out.trans (b5.mono HB.out.size)).mono Hb.out.size))
        clear hBy b5 hcc
        go_wp2_with fail
        refine hsm.mono ?_
        rintro e w6 ⟨rfl, hb6⟩
        have HB6 := Lib.hid (HB5.out.trans (hb6.mono HB5.out.size))
        clear hb6 hsm hrb
        go_wp2
        go_ret
        exact ⟨rfl, HB6.out⟩
  · have h4i : (80 : Int) < (n : Int) := by omega
    go_enter Try.func5, Try.ntmps5
    go_wp2_with fail
    refine (awake6 _).mono ?_
    rintro e w1 ⟨rfl, hb⟩
    have Hb := Lib.hid hb
    clear hb
    go_wp2_with fail
    refine (awake6 _).mono ?_
    rintro e w2 ⟨rfl, hb2⟩
    have Hb2 := Lib.hid (Hb.out.trans (hb2.mono Hb.out.size))
    clear hb2
    go_wp2
    go_ret
    exact ⟨rfl, Hb2.out⟩
end Go.Proofs.Ytfiielibnnodkaa
