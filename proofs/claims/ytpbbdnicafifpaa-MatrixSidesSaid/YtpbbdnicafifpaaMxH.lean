/-
  What MatrixTimes and MatrixSides share; the law MatrixSides walked.
  Conditions: none beyond each theorem's own.
-/
import Derived.Test.YtpbbdnicafifpaaMxG
namespace Go.Proofs.Ytpbbdnicafifpaa
open Go.RowKit
set_option linter.unusedVariables false

theorem sqG_I64 {l : List Int} {r c : Nat} (h : Ints l) : I64M r c (sqG l c) := by
  intro i k _ _
  unfold sqG
  by_cases hk : i * c + k < l.length
  · exact h.get _ hk
  · rw [List.getD, List.getElem?_eq_none (by omega)]
    exact ⟨by simp, by simp⟩

set_option maxRecDepth 100000 in
set_option maxHeartbeats 4000000 in
theorem sides_big {w : World} {al av : Option Addr} {nl cl nv cv : Nat} {a1 a2 : Int} (hl : nl ≤ 9223372036854775807) (hv : nv ≤ 9223372036854775807) (h : 30 < nl ∨ (nl ≤ 30 ∧ 8 < nv)) :
    Calls Try.prog 7 #[.slice al nl cl, .int .u8 a1, .int .u8 a2, .slice av nv cv] w fun e w' => e = .returned (.bool true) ∧ Below w.heap.size w w' := by
  rcases h with h1 | ⟨h1, h2⟩
  · have h1i : (30 : Int) < (nl : Int) := by omega
    go_enter Try.func7, Try.ntmps7
    go_wp2_with fail
    refine (awake11 _).mono ?_
    rintro e w1 ⟨rfl, hb⟩
    have Hb := Lib.hid hb
    clear hb
    go_wp2_with fail
    refine (awake11 _).mono ?_
    rintro e w2 ⟨rfl, hb⟩
    have Hb2 := Lib.hid (Hb.out.trans (hb.mono Hb.out.size))
    clear hb
    go_wp2
    go_ret
    exact ⟨rfl, Hb2.out⟩
  · have h1i : ¬ (30 : Int) < (nl : Int) := by omega
    have h1b : decide ((30 : Int) < (nl : Int)) = false := decide_eq_false h1i
    have h2i : (8 : Int) < (nv : Int) := by omega
    go_enter Try.func7, Try.ntmps7
    go_wp2_with fail
    refine (awake11 _).mono ?_
    rintro e w1 ⟨rfl, hb⟩
    have Hb := Lib.hid hb
    clear hb
    go_wp2_with fail
    refine (awake11 _).mono ?_
    rintro e w2 ⟨rfl, hb⟩
    have Hb2 := Lib.hid (Hb.out.trans (hb.mono Hb.out.size))
    clear hb
    go_wp2
    go_ret
    exact ⟨rfl, Hb2.out⟩

set_option maxRecDepth 100000 in
set_option maxHeartbeats 8000000 in
theorem sides_small {w : World} {al av : Option Addr} {nl cl nv cv r c : Nat} {a1 a2 : Int} {zs vl : List Int} (h1r : 0 ≤ a1 ∧ a1 ≤ 255) (h2r : 0 ≤ a2 ∧ a2 ≤ 255) (hr : (r : Int) = a1 % 5) (hc : (c : Int) = a2 % 5) (hnl : nl = zs.length) (hnv : nv = vl.length) (hl : IntsAt w (.slice al nl cl) zs) (hv : IntsAt w (.slice av nv cv) vl) (hzs : Ints zs) (hvl : Ints vl) (hl30 : nl ≤ 30) (hv8 : nv ≤ 8) :
    Calls Try.prog 7 #[.slice al nl cl, .int .u8 a1, .int .u8 a2, .slice av nv cv] w fun e w' => e = .returned (.bool true) ∧ Below w.heap.size w w' := by
  have h1i : ¬ (30 : Int) < (nl : Int) := by omega
  have h1b : decide ((30 : Int) < (nl : Int)) = false := decide_eq_false h1i
  have h2i : ¬ (8 : Int) < (nv : Int) := by omega
  have h2b : decide ((8 : Int) < (nv : Int)) = false := decide_eq_false h2i
  have hr5 : r < 5 := by omega
  have hc5 : c < 5 := by omega
  have hI := Lib.hid (sqG_I64 (r := r) (c := c) hzs)
  have Hsq := Lib.hid (fun (W : World) (hW : Below w.heap.size w W) => square_any (rw_ := a1) (cl := a2) hnl (hl.below hW) h1r.1 h1r.2 h2r.1 h2r.2 (by omega) r c hr hc)
  have Hv := Lib.hid hv
  have Hnv := Lib.hid hnv
  have Hvl := Lib.hid hvl
  have hc2 : a2 % 5 = (c : Int) := hc.symm
  obtain ⟨h2r0, h2r1⟩ := h2r
  clear h1r hr hc hnl hnv hl hv hzs hvl
  go_enter Try.func7, Try.ntmps7
  go_wp2_with fail
  refine (awake11 _).mono ?_
  rintro e w1 ⟨rfl, hb⟩
  have Hb := Lib.hid hb
  clear hb
  go_wp2_with fail
  refine (Hsq.out _ Hb.out).mono ?_
  rintro e w2 ⟨am, cm, rfl, hm, hb⟩
  have Hb2 := Lib.hid (Hb.out.trans (hb.mono Hb.out.size))
  have Hm := Lib.hid hm.at_
  clear hm hb Hsq
  by_cases hz : 0 < r ∧ 0 < c
  · obtain ⟨hr0, hc0⟩ := hz
    have hrz : ((r : Int) == 0) = false := by simp; omega
    have hcz : ((c : Int) == 0) = false := by simp; omega
    have hw : widthN r c = c := by unfold widthN; rw [if_neg (by omega)]
    obtain ⟨b5, o5, a5, c5, e5, hb5, q5, i5⟩ := Hm.out.row hr0
    subst e5
    rw [Nat.add_zero] at q5
    have Hleft := Lib.hid (left_any Hm.out Hnv.out (Hv.out.below Hb2.out) (by omega) (by omega) (by omega) hI.out Hvl.out)
    have Hturn := Lib.hid (fun (W : World) (hW : Below w2.heap.size w2 W) => turn_any (Hm.out.below hW) (by omega) (by omega) c hw.symm)
    have Hright := Lib.hid (fun (W : World) (b : Nat) (hW : Below w.heap.size w W) (hm : MatOwn w.heap.size W (.slice (some ⟨b, 0, none⟩) c c) c r (fun i j => sqG zs c j i)) => right_any hm.at_ Hnv.out (Hv.out.below hW) (by omega) (by omega) (by omega) (fun i k hi hk => hI.out k i hk hi) Hvl.out)
    have Hw := Lib.hid hw
    have hpos : 0 < r := hr0
    clear i5 hw
    go_wp2_with fail
    refine Hleft.out.mono ?_
    rintro e w3 ⟨hL, hb3⟩
    have Hb3 := Lib.hid hb3
    have fL : (∃ b, e = .returned (.tuple #[.slice (some ⟨b, 0, none⟩) c c, .bool true]) ∧ Hid ((∀ i, i < c → goodR r (fun i j => sqG zs c j i) vl i) ∧ IntsAt w3 (.slice (some ⟨b, 0, none⟩) c c) (rowF c (dvR r (fun i j => sqG zs c j i) vl)))) ∨ (e = .returned (.tuple #[.slice none 0 0, .bool false]) ∧ Hid (∃ i, i < c ∧ ¬ goodR r (fun i j => sqG zs c j i) vl i)) := by
      rcases hL with ⟨h1, hR⟩ | ⟨h1, rfl⟩
      · rw [Hw.out] at hR
        rcases hR with ⟨h2, b, rfl, h3⟩ | ⟨h2, rfl⟩
        · exact .inl ⟨b, rfl, Lib.hid ⟨h2, h3.at_⟩⟩
        · exact .inr ⟨rfl, Lib.hid h2⟩
      · exact .inr ⟨rfl, Lib.hid ⟨0, hc0, fun hg => h1 hg.1.symm⟩⟩
    clear hL hb3
    rcases fL with ⟨b, rfl, HL⟩ | ⟨rfl, HL⟩
    · go_wp2_with fail
      refine (Hturn.out _ Hb3.out).mono ?_
      rintro e w4 ⟨b6, rfl, hm4, hb4⟩
      have Hb4 := Lib.hid hb4
      have Hm4 := Lib.hid (hm4.mono (Nat.le_trans Hb2.out.size Hb3.out.size))
      clear hm4 hb4
      have Hb5 := Lib.hid ((Hb2.out.trans (Hb3.out.mono Hb2.out.size)).trans (Hb4.out.mono (Nat.le_trans Hb2.out.size Hb3.out.size)))
      go_wp2_with fail
      refine (Hright.out _ b6 Hb5.out Hm4.out).mono ?_
      rintro e w5 ⟨hR, hb5'⟩
      have Hb6 := Lib.hid (Hb5.out.trans (hb5'.mono Hb5.out.size))
      rcases hR with ⟨h2, b7, rfl, h3⟩ | ⟨⟨i, hi, h2⟩, rfl⟩
      · have HX := Lib.hid ((HL.out.2.below Hb4.out).below hb5')
        have HY := Lib.hid h3.at_
        clear h2 h3 hb5'
        go_wp2
        go_loopw [14] (fun i wr => ∃ k : Nat, k ≤ c ∧ i = .int .i64 k ∧ Below w5.heap.size w5 wr) (fun i _ => c - (intOf i).toNat)
        case atStart => exact ⟨0, by omega, rfl, Below.refl _ _⟩
        case round =>
          rename World => v1
          obtain ⟨k, hk, rfl, hbr⟩ := hrel
          have Hbr := Lib.hid hbr
          clear hbr
          by_cases hlt : k < c
          · have hlti : (k : Int) < (c : Int) := by omega
            obtain ⟨b8, o8, e8, hb8, x8⟩ := rowAt_at (HX.out.below Hbr.out) hlt
            obtain ⟨b9, o9, e9, hb9, x9⟩ := rowAt_at (HY.out.below Hbr.out) hlt
            injection e8 with e8
            injection e8 with e8 e8' _
            subst e8 e8'
            injection e9 with e9
            injection e9 with e9 e9' _
            subst e9 e9'
            generalize dvR r (fun i j => sqG zs c j i) vl k = z at x8 x9
            simp only [Nat.zero_add] at x8 x9
            go_wp2
            go_quiet (fail)
            go_wp2
            go_roundw
            case rel => exact ⟨k + 1, by omega, by go_num, below_drews Hbr.out _⟩
            case measure => simp [intOf]; omega
          · have hge : ¬ (k : Int) < (c : Int) := by omega
            go_wp2
            go_ret
            exact ⟨rfl, Hb6.out.trans (Hbr.out.mono Hb6.out.size)⟩
      · exact absurd (HL.out.1 i hi) h2
    · go_wp2_with fail
      refine (Hturn.out _ Hb3.out).mono ?_
      rintro e w4 ⟨b6, rfl, hm4, hb4⟩
      have Hb4 := Lib.hid hb4
      have Hm4 := Lib.hid (hm4.mono (Nat.le_trans Hb2.out.size Hb3.out.size))
      clear hm4 hb4
      have Hb5 := Lib.hid ((Hb2.out.trans (Hb3.out.mono Hb2.out.size)).trans (Hb4.out.mono (Nat.le_trans Hb2.out.size Hb3.out.size)))
      go_wp2_with fail
      refine (Hright.out _ b6 Hb5.out Hm4.out).mono ?_
      rintro e w5 ⟨hR, hb5'⟩
      have Hb6 := Lib.hid (Hb5.out.trans (hb5'.mono Hb5.out.size))
      rcases hR with ⟨h2, b7, rfl, h3⟩ | ⟨_, rfl⟩
      · obtain ⟨i, hi, h4⟩ := HL.out
        exact absurd (h2 i hi) h4
      · clear hb5'
        go_wp2
        go_loopw [14] (fun i wr => i = .int .i64 0 ∧ wr = w5) (fun i _ => 0)
        case atStart => exact ⟨rfl, rfl⟩
        case round =>
          obtain ⟨rfl, rfl⟩ := hrel
          go_wp2
          go_ret
          exact ⟨rfl, Hb6.out⟩
  · by_cases hr0 : 0 < r
    · have hrz : ((r : Int) == 0) = false := by simp; omega
      obtain rfl : c = 0 := by omega
      obtain ⟨b5, o5, a5, c5, e5, hb5, q5, i5⟩ := Hm.out.row hr0
      subst e5
      rw [Nat.add_zero] at q5
      clear i5 hz
      go_wp2
      go_ret
      exact ⟨rfl, Hb2.out⟩
    · obtain rfl : r = 0 := by omega
      clear hz
      go_wp2
      go_ret
      exact ⟨rfl, Hb2.out⟩

theorem sides_law {w : World} {al av : Option Addr} {cl cv : Nat} {a1 a2 : Int} {zs vl : List Int} (u1 : (Lit.int .u8 a1).wf = true) (u2 : (Lit.int .u8 a2).wf = true) (hl : IntsAt w (.slice al zs.length cl) zs) (hv : IntsAt w (.slice av vl.length cv) vl) (hzs : Ints zs) (hvl : Ints vl) :
    Calls Try.prog 7 #[.slice al zs.length cl, .int .u8 a1, .int .u8 a2, .slice av vl.length cv] w fun e w' => e = .returned (.bool true) ∧ Below w.heap.size w w' := by
  have b1 := bounds_u8 u1
  have b2 := bounds_u8 u2
  by_cases h : zs.length ≤ 30
  · by_cases h8 : vl.length ≤ 8
    · exact sides_small (r := (a1 % 5).toNat) (c := (a2 % 5).toNat) b1 b2 (by omega) (by omega) rfl rfl hl hv hzs hvl h h8
    · exact sides_big (RowAt.max hl) (RowAt.max hv) (.inr ⟨h, by omega⟩)
  · exact sides_big (RowAt.max hl) (RowAt.max hv) (.inl (by omega))
end Go.Proofs.Ytpbbdnicafifpaa
