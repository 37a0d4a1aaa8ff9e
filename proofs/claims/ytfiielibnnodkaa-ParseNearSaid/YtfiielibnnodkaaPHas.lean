/-
  Is an arc's place in a list already? As the parser asks it.
  Conditions: none beyond each theorem's own.
-/
import Derived.Test.YtfiielibnnodkaaNetD
namespace Go.Proofs.Ytfiielibnnodkaa
open Go.RowKit
set_option linter.unusedVariables false

theorem rarcIs_any (x y z : Int) (g : Nat) (w : World) (hg : g < w.heap.size) (hc : w.cell? ⟨g, 0, none⟩ = some (.int .i64 z)) :
    Calls Try.prog 110 #[.agg #[.int .i64 x, .int .i64 y], .pointer (some ⟨g, 0, none⟩)] w fun e w' => e = .returned (.bool (x == z)) ∧ Below w.heap.size w w' := by
  go_enter Try.func110, Try.ntmps110
  go_wp2
  go_ret
  exact ⟨rfl, (Below.refl _ _).alloc (Nat.le_refl _) _⟩

set_option maxRecDepth 100000 in
set_option maxHeartbeats 1000000 in
theorem ridxArc_any {w : World} {l : List (Int × Int)} {a : Option Addr} {n cap g : Nat} {z : Int} (hn : n = l.length) (h : ArcsAt w (.slice a n cap) l) (hg : g < w.heap.size) (hc : w.cell? ⟨g, 0, none⟩ = some (.int .i64 z)) :
    Calls Try.prog 81 #[.slice a n cap, .func (.func 110) #[] #[.pointer (some ⟨g, 0, none⟩)]] w fun e w' => e = .returned (.int .i64 (idxOf (fun x => x.1 == z) l)) ∧ Below w.heap.size w w' := by
  have hmax : n ≤ 9223372036854775807 := by have := RowAt.max h; omega
  have H := Lib.hid h
  have Hn := Lib.hid hn
  obtain ⟨q, hq⟩ : ∃ q, q = idxOf (fun x : Int × Int => x.1 == z) l := ⟨_, rfl⟩
  rw [← hq]
  have Hq : Hid (q = idxFrom (fun x : Int × Int => x.1 == z) l 0) := Lib.hid hq
  have Hc := Lib.hid hc
  clear h hn hq hc
  go_enter Try.func81, Try.ntmps81
  go_wp2
  go_loopw [8] (fun i wr => ∃ k : Nat, k ≤ n ∧ i = .int .i64 k ∧ Below w.heap.size w wr ∧ Hid (q = idxFrom (fun x : Int × Int => x.1 == z) l k)) (fun i _ => n - (intOf i).toNat)
  case atStart => exact ⟨0, by omega, rfl, Below.refl _ _, Hq⟩
  case round =>
    obtain ⟨k, hk, rfl, hb, Hk⟩ := hrel
    by_cases hlt : k < n
    · obtain ⟨⟨x, y⟩, ht⟩ := at_lt (l := l) (k := k) (by rw [← Hn.out]; exact hlt)
      have hlti : (k : Int) < (n : Int) := by omega
      obtain ⟨b, off, rfl, hbw, e0, e1⟩ := (H.out.below hb).at_ ht
      have hgc : wr.cell? ⟨g, 0, none⟩ = some (.int .i64 z) := (below_cells hb g 0 hg).trans Hc.out
      have hgw : g < wr.heap.size := Nat.lt_of_lt_of_le hg hb.size
      have Ht := Lib.hid ht
      have Hb := Lib.hid hb
      clear ht hb
      cases hf : (x == z) with
      | true =>
        have Hr : Hid (q = (k : Int)) := Lib.hid (by rw [Hk.out]; exact idxFrom_yes Ht.out hf)
        have HF := Lib.hid hf
        clear hf
        go_wp2_with (go_at_call 110; refine (rarcIs_any _ _ _ _ _ hgw hgc).mono ?_; rintro e w' ⟨rfl, hb'⟩; have HB := Lib.hid hb'; clear hb'; rw [HF.out])
        go_ret
        exact ⟨by rw [Hr.out]; rfl, Hb.out.trans (HB.out.mono Hb.out.size)⟩
      | false =>
        have Hr : Hid (q = idxFrom (fun x : Int × Int => x.1 == z) l (k + 1)) := Lib.hid (by rw [Hk.out]; exact idxFrom_no Ht.out hf)
        have HF := Lib.hid hf
        clear hf
        go_wp2_with (go_at_call 110; refine (rarcIs_any _ _ _ _ _ hgw hgc).mono ?_; rintro e w' ⟨rfl, hb'⟩; have HB := Lib.hid hb'; clear hb'; rw [HF.out])
        go_roundw
        case rel => exact ⟨k + 1, by omega, by go_num, Hb.out.trans (HB.out.mono Hb.out.size), Hr⟩
        case measure => simp [intOf]; omega
    · have hge : ¬ (k : Int) < (n : Int) := by omega
      have Hr : Hid (q = -1) := Lib.hid (by rw [Hk.out]; exact idxFrom_end _ _ _ (by rw [← Hn.out]; omega))
      have Hb := Lib.hid hb
      clear hb
      go_wp2
      go_ret
      exact ⟨by rw [Hr.out]; rfl, Hb.out⟩

set_option maxRecDepth 100000 in
theorem rconArc_any {w : World} {l : List (Int × Int)} {a : Option Addr} {n cap g : Nat} {z : Int} (hn : n = l.length) (h : ArcsAt w (.slice a n cap) l) (hg : g < w.heap.size) (hgc : w.cell? ⟨g, 0, none⟩ = some (.int .i64 z)) :
    Calls Try.prog 62 #[.slice a n cap, .func (.func 110) #[] #[.pointer (some ⟨g, 0, none⟩)]] w fun e w' => e = .returned (.bool (hasP l z)) ∧ Below w.heap.size w w' := by
  have hc := ridxArc_any hn h hg hgc
  have h1 : hasP l z = true → 0 ≤ idxOf (fun x : Int × Int => x.1 == z) l := fun e => idxOf_yes e
  have h2 : hasP l z = false → idxOf (fun x : Int × Int => x.1 == z) l = -1 := fun e => idxOf_no e
  clear h hn hgc
  revert hc h1 h2
  generalize hasP l z = p
  generalize idxOf (fun x : Int × Int => x.1 == z) l = q
  intro hc h1 h2
  replace hc := Lib.hid hc
  replace h1 := Lib.hid h1
  replace h2 := Lib.hid h2
  cases p with
  | true =>
    have g : 0 ≤ q := h1.out rfl
    go_enter Try.func62, Try.ntmps62
    go_wp2_with fail
    refine hc.out.mono ?_
    rintro e w' ⟨rfl, hb⟩
    go_wp2
    go_ret
    exact ⟨rfl, hb⟩
  | false =>
    obtain rfl : q = -1 := h2.out rfl
    go_enter Try.func62, Try.ntmps62
    go_wp2_with fail
    refine hc.out.mono ?_
    rintro e w' ⟨rfl, hb⟩
    go_wp2
    go_ret
    exact ⟨rfl, hb⟩

end Go.Proofs.Ytfiielibnnodkaa
