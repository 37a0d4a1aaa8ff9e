/-
  The law MatrixTimes walked.
  Conditions: none beyond each theorem's own.
-/
import Derived.Test.YtpbbdnicafifpaaMxH
namespace Go.Proofs.Ytpbbdnicafifpaa
open Go.RowKit
set_option linter.unusedVariables false

theorem dots_comm : ∀ (s : Int) (xs ys : List Int), dots s xs ys = dots s ys xs
  | s, [], [] => rfl
  | s, [], _ :: _ => rfl
  | s, _ :: _, [] => rfl
  | s, x :: xs, y :: ys => by
    unfold dots
    rw [Int.mul_comm x y]
    split
    · split
      · exact dots_comm _ xs ys
      · rfl
    · rfl
/-- a column's sum is an int -/
def colOk (r : Nat) (g : Nat → Nat → Int) (vl : List Int) (k : Nat) : Prop := (dots 0 vl (rowF r (fun i => g i k))).isSome = true
theorem dotV_some {o : Option Int} {s : Int} (h : o = some s) : dotV o = .tuple #[.int .i64 s, .bool true] := by rw [h]; rfl
theorem dotV_none {o : Option Int} (h : o = none) : dotV o = .tuple #[.int .i64 0, .bool false] := by rw [h]; rfl
theorem col_ints {r c : Nat} {g : Nat → Nat → Int} (h : I64M r c g) {k : Nat} (hk : k < c) : Ints (rowF r (fun i => g i k)) := by
  intro x hx
  unfold rowF at hx
  rw [List.mem_map] at hx
  obtain ⟨i, hi, rfl⟩ := hx
  exact h i k (List.mem_range.1 hi) hk

set_option maxRecDepth 100000 in
set_option maxHeartbeats 4000000 in
theorem mtimes_big {w : World} {al av : Option Addr} {nl cl nv cv : Nat} {a1 a2 : Int} (hl : nl ≤ 9223372036854775807) (hv : nv ≤ 9223372036854775807) (h : 30 < nl ∨ (nl ≤ 30 ∧ 8 < nv)) :
    Calls Try.prog 4 #[.slice al nl cl, .int .u8 a1, .int .u8 a2, .slice av nv cv] w fun e w' => e = .returned (.bool true) ∧ Below w.heap.size w w' := by
  rcases h with h1 | ⟨h1, h2⟩
  · have h1i : (30 : Int) < (nl : Int) := by omega
    go_enter Try.func4, Try.ntmps4
    go_wp2_with fail
    refine (awake11 _).mono ?_
    rintro e w1 ⟨rfl, hb⟩
    have Hb := Lib.hid hb
    clear hb
    go_wp2_with fail
    refine (awake11 _).mono ?_
    rintro e w2 ⟨rfl, hb⟩
    have Hb2 := Lib.hid (Hb.out.trans (hb.mono Hb.out.size))
    clear hb
    go_wp2
    go_ret
    exact ⟨rfl, Hb2.out⟩
  · have h1i : ¬ (30 : Int) < (nl : Int) := by omega
    have h1b : decide ((30 : Int) < (nl : Int)) = false := decide_eq_false h1i
    have h2i : (8 : Int) < (nv : Int) := by omega
    go_enter Try.func4, Try.ntmps4
    go_wp2_with fail
    refine (awake11 _).mono ?_
    rintro e w1 ⟨rfl, hb⟩
    have Hb := Lib.hid hb
    clear hb
    go_wp2_with fail
    refine (awake11 _).mono ?_
    rintro e w2 ⟨rfl, hb⟩
    have Hb2 := Lib.hid (Hb.out.trans (hb.mono Hb.out.size))
    clear hb
    go_wp2
    go_ret
    exact ⟨rfl, Hb2.out⟩

set_option maxRecDepth 100000 in
set_option maxHeartbeats 8000000 in
theorem mtimes_small {w : World} {al av : Option Addr} {nl cl nv cv r c : Nat} {a1 a2 : Int} {zs vl : List Int} (h1r : 0 ≤ a1 ∧ a1 ≤ 255) (h2r : 0 ≤ a2 ∧ a2 ≤ 255) (hr : (r : Int) = a1 % 5) (hc : (c : Int) = a2 % 5) (hnl : nl = zs.length) (hnv : nv = vl.length) (hl : IntsAt w (.slice al nl cl) zs) (hv : IntsAt w (.slice av nv cv) vl) (hzs : Ints zs) (hvl : Ints vl) (hl30 : nl ≤ 30) (hv8 : nv ≤ 8) :
    Calls Try.prog 4 #[.slice al nl cl, .int .u8 a1, .int .u8 a2, .slice av nv cv] w fun e w' => e = .returned (.bool true) ∧ Below w.heap.size w w' := by
  have h1i : ¬ (30 : Int) < (nl : Int) := by omega
  have h1b : decide ((30 : Int) < (nl : Int)) = false := decide_eq_false h1i
  have h2i : ¬ (8 : Int) < (nv : Int) := by omega
  have h2b : decide ((8 : Int) < (nv : Int)) = false := decide_eq_false h2i
  have hr5 : r < 5 := by omega
  have hc5 : c < 5 := by omega
  have hI := Lib.hid (sqG_I64 (r := r) (c := c) hzs)
  have Hsq := Lib.hid (fun (W : World) (hW : Below w.heap.size w W) => square_any (rw_ := a1) (cl := a2) hnl (hl.below hW) h1r.1 h1r.2 h2r.1 h2r.2 (by omega) r c hr hc)
  have Hv := Lib.hid hv
  have Hnv := Lib.hid hnv
  have Hvl := Lib.hid hvl
  have hc2 : a2 % 5 = (c : Int) := hc.symm
  obtain ⟨h2r0, h2r1⟩ := h2r
  clear h1r hr hc hnl hnv hl hv hzs hvl
  go_enter Try.func4, Try.ntmps4
  go_wp2_with fail
  refine (awake11 _).mono ?_
  rintro e w1 ⟨rfl, hb⟩
  have Hb := Lib.hid hb
  clear hb
  go_wp2_with fail
  refine (Hsq.out _ Hb.out).mono ?_
  rintro e w2 ⟨am, cm, rfl, hm, hb⟩
  have Hb2 := Lib.hid (Hb.out.trans (hb.mono Hb.out.size))
  have Hm := Lib.hid hm.at_
  clear hm hb Hsq
  have Hleft := Lib.hid (left_any Hm.out Hnv.out (Hv.out.below Hb2.out) (by omega) (by omega) (by omega) hI.out Hvl.out)
  have Hright := Lib.hid (fun (W : World) (hW : Below w2.heap.size w2 W) => right_any (Hm.out.below hW) Hnv.out ((Hv.out.below Hb2.out).below hW) (by omega) (by omega) (by omega) hI.out Hvl.out)
  have Hrd : Hid (∀ W : World, Below w2.heap.size w2 W → ∀ i, i < r → ∀ (b : Nat) (cc : Nat), IntsAt W (.slice (some ⟨b, 0, none⟩) c cc) (rowF c (sqG zs c i)) → True) := Lib.hid (fun _ _ _ _ _ _ _ => trivial)
  clear Hrd
  go_wp2_with fail
  refine Hleft.out.mono ?_
  rintro e w3 ⟨hL, hb3⟩
  have Hb3 := Lib.hid hb3
  clear hb3 Hleft
  have fL : ((∃ b, e = .returned (.tuple #[.slice (some ⟨b, 0, none⟩) (widthN r c) (widthN r c), .bool true]) ∧ Hid (vl.length = r ∧ (∀ i, i < widthN r c → goodR r (fun i j => sqG zs c j i) vl i) ∧ IntsAt w3 (.slice (some ⟨b, 0, none⟩) (widthN r c) (widthN r c)) (rowF (widthN r c) (dvR r (fun i j => sqG zs c j i) vl)))) ∨ (e = .returned (.tuple #[.slice none 0 0, .bool false]) ∧ Hid (vl.length = r ∧ ∃ i, i < widthN r c ∧ ¬ goodR r (fun i j => sqG zs c j i) vl i))) ∨ (e = .returned (.tuple #[.slice none 0 0, .bool false]) ∧ Hid (vl.length ≠ r)) := by
    rcases hL with ⟨h1, hR⟩ | ⟨h1, rfl⟩
    · rcases hR with ⟨h2, b, rfl, h3⟩ | ⟨h2, rfl⟩
      · exact .inl (.inl ⟨b, rfl, Lib.hid ⟨h1, h2, h3.at_⟩⟩)
      · exact .inl (.inr ⟨rfl, Lib.hid ⟨h1, h2⟩⟩)
    · exact .inr ⟨rfl, Lib.hid h1⟩
  clear hL
  rcases fL with (⟨b8, rfl, HL⟩ | ⟨rfl, HL⟩) | ⟨rfl, HL⟩
  · go_wp2_with fail
    refine (Hright.out _ Hb3.out).mono ?_
    rintro e w4 ⟨hR, hb4⟩
    have Hb4 := Lib.hid (Hb3.out.trans (hb4.mono Hb3.out.size))
    have Hb40 := Lib.hid hb4
    clear hb4
    have fR : (∃ b, e = .returned (.tuple #[.slice (some ⟨b, 0, none⟩) r r, .bool true]) ∧ Hid ((∀ i, i < r → goodR c (sqG zs c) vl i) ∧ IntsAt w4 (.slice (some ⟨b, 0, none⟩) r r) (rowF r (dvR c (sqG zs c) vl)))) ∨ (e = .returned (.tuple #[.slice none 0 0, .bool false]) ∧ Hid (∃ i, i < r ∧ ¬ goodR c (sqG zs c) vl i)) := by
      rcases hR with ⟨h2, b, rfl, h3⟩ | ⟨h2, rfl⟩
      · exact .inl ⟨b, rfl, Lib.hid ⟨h2, h3.at_⟩⟩
      · exact .inr ⟨rfl, Lib.hid h2⟩
    clear hR
    rcases fR with ⟨b7, rfl, HR⟩ | ⟨rfl, HR⟩
    · have hlen : nv = r := by rw [Hnv.out]; exact HL.out.1
      by_cases hrp : 0 < r
      · have Hwid : Hid (widthN r c = c) := Lib.hid (by unfold widthN; rw [if_neg (by omega)])
        have hwid := Hwid.out
        rw [hwid]
        have hrpi : (0 : Int) < (r : Int) := by omega
        have hbe : ((nv : Int) == (r : Int)) = true := by simp [hlen]
        clear hwid hlen
        go_wp2
        rw [hc2]
        clear hc2
        go_loopw [15, 16] (fun cn i wr => ∃ k : Nat, k ≤ c ∧ cn = .bool true ∧ i = .int .i64 k ∧ Below w4.heap.size w4 wr) (fun _ i _ => c - (intOf i).toNat)
        case atStart => exact ⟨0, by omega, rfl, rfl, Below.refl _ _⟩
        case round =>
          rename World => v1
          obtain ⟨k, hk, rfl, rfl, hbr⟩ := hrel
          have Hbr := Lib.hid hbr
          clear hbr
          by_cases hlt : k < c
          · have hlti : (k : Int) < (c : Int) := by omega
            go_wp2
            go_loopw [17, 18] (fun v i wr => ∃ j : Nat, j ≤ r ∧ i = .int .i64 j ∧ (∃ a c, v = .slice a j c) ∧ OwnI v1.heap.size wr v (rowF j (fun i => sqG zs c i k)) ∧ Below v1.heap.size v1 wr) (fun _ i _ => r - (intOf i).toNat)
            case atStart => exact ⟨0, by omega, rfl, ⟨_, _, rfl⟩, World.ownsRow_nil _ _ _ _, Below.refl _ _⟩
            case round =>
              rename World => v2
              obtain ⟨j, hj, rfl, ⟨ar, cr, rfl⟩, hor, hbc⟩ := hrel
              have Hbc := Lib.hid (Hbr.out.trans (hbc.mono Hbr.out.size))
              by_cases hltj : j < r
              · have hltji : (j : Int) < (r : Int) := by omega
                obtain ⟨b5, o5, a5, c5, e5, hb5, q5, i5⟩ := (Hm.out.below (Hb4.out.trans (Hbc.out.mono Hb4.out.size))).row hltj
                subst e5
                obtain ⟨b6, o6, e6, hb6, x6⟩ := rowAt_at i5 (k := k) hlt
                subst e6
                obtain ⟨v', w', hr, ho2, hk2, hv2⟩ := run_push_i 39 (sqG zs c j k) hor (by rw [rowF_len]; omega) hbc.size
                rw [← rowF_succ j (fun i => sqG zs c i k)] at ho2
                have hform := IntsAt.form ho2.at_
                rw [rowF_len] at hform
                have Ho2 := Lib.hid ho2
                have Hform := Lib.hid hform
                have Hbr3 : Hid (Below v1.heap.size v1 w') := Lib.hid (hbc.trans (hk2.below (fun i hi => (World.ownsRow.lt hor i hi).1) hbc.size))
                generalize sqG zs c j k = zz at x6 hr
                clear ho2 hk2 hv2 hform hor hbc i5
                go_wp2_with (at_builtin; refine wpList_append_eq rfl (.tmp 81) (.tmp 89) 39 rfl rfl rfl hr ?_)
                go_roundw
                case rel => exact ⟨j + 1, by omega, by go_num, Hform.out, Ho2.out, Hbr3.out⟩
                case measure => simp [intOf]; omega
              · have hgej : ¬ (j : Int) < (r : Int) := by omega
                obtain rfl : r = j := by omega
                have hgd := HL.out.2.1 k (by rw [Hwid.out]; exact hlt)
                obtain ⟨s, hs⟩ := Option.isSome_iff_exists.1 hgd.2
                have hdv : dvR r (fun i j => sqG zs c j i) vl k = s := by unfold dvR; rw [hs]; rfl
                rw [dots_comm] at hs
                have Hdot := Lib.hid (rdotW Hnv.out (rowF_len _ _).symm ((Hv.out.below Hb2.out).below (Hb4.out.trans (Hbc.out.mono Hb4.out.size))) hor.at_ Hvl.out (col_ints hI.out hlt) (by omega) (by omega) _ (dotV_some hs).symm)
                have hX := HL.out.2.2
                rw [Hwid.out] at hX
                obtain ⟨b9, o9, e9, hb9, x9⟩ := rowAt_at (hX.below (Hb40.out.trans (Hbc.out.mono Hb40.out.size))) hlt
                injection e9 with e9
                injection e9 with e9 e9' _
                subst e9 e9'
                rw [hdv] at x9
                rw [Nat.zero_add] at x9
                clear hgd hs hdv hX hor hbc
                go_wp2_with fail
                refine Hdot.out.mono ?_
                rintro e x2 ⟨rfl, hb6⟩
                have x9' := (hb6.cell (p := ⟨b8, k, none⟩) hb9).trans x9
                have Hb6 := Lib.hid (Hbc.out.trans (hb6.mono Hbc.out.size))
                clear hb6 x9
                go_wp2
                go_roundw
                case rel => exact ⟨k + 1, by omega, rfl, by go_num, Hb6.out⟩
                case measure => simp [intOf]; omega
          · have hge : ¬ (k : Int) < (c : Int) := by omega
            go_wp2
            go_loopw [21, 22] (fun cd i wr => ∃ k : Nat, k ≤ r ∧ cd = .bool true ∧ i = .int .i64 k ∧ Below w4.heap.size w4 wr) (fun _ i _ => r - (intOf i).toNat)
            case atStart => exact ⟨0, by omega, rfl, rfl, Hbr.out⟩
            case round =>
              rename World => x1
              obtain ⟨k2, hk2, rfl, rfl, hbr⟩ := hrel
              have Hbr := Lib.hid hbr
              have Hbr2 := Lib.hid (Hb4.out.trans (hbr.mono Hb4.out.size))
              clear hbr
              by_cases hlt2 : k2 < r
              · have hlti2 : (k2 : Int) < (r : Int) := by omega
                obtain ⟨b5, o5, a5, c5, e5, hb5, q5, i5⟩ := (Hm.out.below Hbr2.out).row hlt2
                subst e5
                have hgd := HR.out.1 k2 hlt2
                have hcn : c = nv := hgd.1.trans Hnv.out.symm
                subst hcn
                obtain ⟨s, hs⟩ := Option.isSome_iff_exists.1 hgd.2
                have hdv : dvR c (sqG zs c) vl k2 = s := by unfold dvR; rw [hs]; rfl
                have Hdot := Lib.hid (rdotW (rowF_len _ _).symm Hnv.out i5 ((Hv.out.below Hb2.out).below Hbr2.out) (hI.out.row hlt2) Hvl.out (by omega) (by omega) _ (dotV_some hs).symm)
                obtain ⟨b9, o9, e9, hb9, x9⟩ := rowAt_at (HR.out.2.below Hbr.out) hlt2
                injection e9 with e9
                injection e9 with e9 e9' _
                subst e9 e9'
                rw [hdv] at x9
                rw [Nat.zero_add] at x9
                clear i5 hgd hs hdv
                go_wp2_with fail
                refine Hdot.out.mono ?_
                rintro e x2 ⟨rfl, hb6⟩
                have x9' := (hb6.cell (p := ⟨b7, k2, none⟩) hb9).trans x9
                have Hb6 := Lib.hid (Hbr.out.trans (hb6.mono Hbr.out.size))
                clear hb6 x9 q5
                go_wp2
                go_roundw
                case rel => exact ⟨k2 + 1, by omega, rfl, by go_num, Hb6.out⟩
                case measure => simp [intOf]; omega
              · have hge2 : ¬ (k2 : Int) < (r : Int) := by omega
                go_wp2
                go_ret
                exact ⟨rfl, (Hb2.out.trans (Hbr2.out.mono Hb2.out.size))⟩
      · have Hwid : Hid (widthN r c = 0) := Lib.hid (by unfold widthN; rw [if_pos (by omega)])
        have hwid := Hwid.out
        rw [hwid]
        have hrpi : ¬ (0 : Int) < (r : Int) := by omega
        have hbe : ((nv : Int) == (r : Int)) = true := by simp [hlen]
        clear hwid hlen
        go_wp2
        rw [hc2]
        clear hc2
        go_loopw [15, 16] (fun cn i wr => cn = .bool true ∧ i = .int .i64 0 ∧ w4 = wr) (fun _ i _ => 0)
        case atStart => exact ⟨rfl, rfl, rfl⟩
        case round =>
          obtain ⟨rfl, rfl, rfl⟩ := hrel
          go_wp2
          go_loopw [21, 22] (fun cd i wr => ∃ k : Nat, k ≤ r ∧ cd = .bool true ∧ i = .int .i64 k ∧ Below w4.heap.size w4 wr) (fun _ i _ => r - (intOf i).toNat)
          case atStart => exact ⟨0, by omega, rfl, rfl, Below.refl _ _⟩
          case round =>
            rename World => x1
            obtain ⟨k2, hk2, rfl, rfl, hbr⟩ := hrel
            have Hbr := Lib.hid hbr
            have Hbr2 := Lib.hid (Hb4.out.trans (hbr.mono Hb4.out.size))
            clear hbr
            by_cases hlt2 : k2 < r
            · have hlti2 : (k2 : Int) < (r : Int) := by omega
              obtain ⟨b5, o5, a5, c5, e5, hb5, q5, i5⟩ := (Hm.out.below Hbr2.out).row hlt2
              subst e5
              have hgd := HR.out.1 k2 hlt2
              have hcn : c = nv := hgd.1.trans Hnv.out.symm
              subst hcn
              obtain ⟨s, hs⟩ := Option.isSome_iff_exists.1 hgd.2
              have hdv : dvR c (sqG zs c) vl k2 = s := by unfold dvR; rw [hs]; rfl
              have Hdot := Lib.hid (rdotW (rowF_len _ _).symm Hnv.out i5 ((Hv.out.below Hb2.out).below Hbr2.out) (hI.out.row hlt2) Hvl.out (by omega) (by omega) _ (dotV_some hs).symm)
              obtain ⟨b9, o9, e9, hb9, x9⟩ := rowAt_at (HR.out.2.below Hbr.out) hlt2
              injection e9 with e9
              injection e9 with e9 e9' _
              subst e9 e9'
              rw [hdv] at x9
              rw [Nat.zero_add] at x9
              clear i5 hgd hs hdv
              go_wp2_with fail
              refine Hdot.out.mono ?_
              rintro e x2 ⟨rfl, hb6⟩
              have x9' := (hb6.cell (p := ⟨b7, k2, none⟩) hb9).trans x9
              have Hb6 := Lib.hid (Hbr.out.trans (hb6.mono Hbr.out.size))
              clear hb6 x9 q5
              go_wp2
              go_roundw
              case rel => exact ⟨k2 + 1, by omega, rfl, by go_num, Hb6.out⟩
              case measure => simp [intOf]; omega
            · have hge2 : ¬ (k2 : Int) < (r : Int) := by omega
              go_wp2
              go_ret
              exact ⟨rfl, (Hb2.out.trans (Hbr2.out.mono Hb2.out.size))⟩
    · have hlen : nv = r := by rw [Hnv.out]; exact HL.out.1
      by_cases hrp : 0 < r
      · have Hwid : Hid (widthN r c = c) := Lib.hid (by unfold widthN; rw [if_neg (by omega)])
        have hwid := Hwid.out
        rw [hwid]
        have hrpi : (0 : Int) < (r : Int) := by omega
        have hbe : ((nv : Int) == (r : Int)) = true := by simp [hlen]
        clear hwid hlen
        go_wp2
        rw [hc2]
        clear hc2
        go_loopw [15, 16] (fun cn i wr => ∃ k : Nat, k ≤ c ∧ cn = .bool true ∧ i = .int .i64 k ∧ Below w4.heap.size w4 wr) (fun _ i _ => c - (intOf i).toNat)
        case atStart => exact ⟨0, by omega, rfl, rfl, Below.refl _ _⟩
        case round =>
          rename World => v1
          obtain ⟨k, hk, rfl, rfl, hbr⟩ := hrel
          have Hbr := Lib.hid hbr
          clear hbr
          by_cases hlt : k < c
          · have hlti : (k : Int) < (c : Int) := by omega
            go_wp2
            go_loopw [17, 18] (fun v i wr => ∃ j : Nat, j ≤ r ∧ i = .int .i64 j ∧ (∃ a c, v = .slice a j c) ∧ OwnI v1.heap.size wr v (rowF j (fun i => sqG zs c i k)) ∧ Below v1.heap.size v1 wr) (fun _ i _ => r - (intOf i).toNat)
            case atStart => exact ⟨0, by omega, rfl, ⟨_, _, rfl⟩, World.ownsRow_nil _ _ _ _, Below.refl _ _⟩
            case round =>
              rename World => v2
              obtain ⟨j, hj, rfl, ⟨ar, cr, rfl⟩, hor, hbc⟩ := hrel
              have Hbc := Lib.hid (Hbr.out.trans (hbc.mono Hbr.out.size))
              by_cases hltj : j < r
              · have hltji : (j : Int) < (r : Int) := by omega
                obtain ⟨b5, o5, a5, c5, e5, hb5, q5, i5⟩ := (Hm.out.below (Hb4.out.trans (Hbc.out.mono Hb4.out.size))).row hltj
                subst e5
                obtain ⟨b6, o6, e6, hb6, x6⟩ := rowAt_at i5 (k := k) hlt
                subst e6
                obtain ⟨v', w', hr, ho2, hk2, hv2⟩ := run_push_i 39 (sqG zs c j k) hor (by rw [rowF_len]; omega) hbc.size
                rw [← rowF_succ j (fun i => sqG zs c i k)] at ho2
                have hform := IntsAt.form ho2.at_
                rw [rowF_len] at hform
                have Ho2 := Lib.hid ho2
                have Hform := Lib.hid hform
                have Hbr3 : Hid (Below v1.heap.size v1 w') := Lib.hid (hbc.trans (hk2.below (fun i hi => (World.ownsRow.lt hor i hi).1) hbc.size))
                generalize sqG zs c j k = zz at x6 hr
                clear ho2 hk2 hv2 hform hor hbc i5
                go_wp2_with (at_builtin; refine wpList_append_eq rfl (.tmp 81) (.tmp 89) 39 rfl rfl rfl hr ?_)
                go_roundw
                case rel => exact ⟨j + 1, by omega, by go_num, Hform.out, Ho2.out, Hbr3.out⟩
                case measure => simp [intOf]; omega
              · have hgej : ¬ (j : Int) < (r : Int) := by omega
                obtain rfl : r = j := by omega
                have hgd := HL.out.2.1 k (by rw [Hwid.out]; exact hlt)
                obtain ⟨s, hs⟩ := Option.isSome_iff_exists.1 hgd.2
                have hdv : dvR r (fun i j => sqG zs c j i) vl k = s := by unfold dvR; rw [hs]; rfl
                rw [dots_comm] at hs
                have Hdot := Lib.hid (rdotW Hnv.out (rowF_len _ _).symm ((Hv.out.below Hb2.out).below (Hb4.out.trans (Hbc.out.mono Hb4.out.size))) hor.at_ Hvl.out (col_ints hI.out hlt) (by omega) (by omega) _ (dotV_some hs).symm)
                have hX := HL.out.2.2
                rw [Hwid.out] at hX
                obtain ⟨b9, o9, e9, hb9, x9⟩ := rowAt_at (hX.below (Hb40.out.trans (Hbc.out.mono Hb40.out.size))) hlt
                injection e9 with e9
                injection e9 with e9 e9' _
                subst e9 e9'
                rw [hdv] at x9
                rw [Nat.zero_add] at x9
                clear hgd hs hdv hX hor hbc
                go_wp2_with fail
                refine Hdot.out.mono ?_
                rintro e x2 ⟨rfl, hb6⟩
                have x9' := (hb6.cell (p := ⟨b8, k, none⟩) hb9).trans x9
                have Hb6 := Lib.hid (Hbc.out.trans (hb6.mono Hbc.out.size))
                clear hb6 x9
                go_wp2
                go_roundw
                case rel => exact ⟨k + 1, by omega, rfl, by go_num, Hb6.out⟩
                case measure => simp [intOf]; omega
          · have hge : ¬ (k : Int) < (c : Int) := by omega
            go_wp2
            go_loopw [21, 22] (fun cd i wr => ∃ k : Nat, k ≤ r ∧ cd = .bool true ∧ i = .int .i64 k ∧ Below w4.heap.size w4 wr ∧ Hid (∀ i, i < k → goodR c (sqG zs c) vl i)) (fun _ i _ => r - (intOf i).toNat)
            case atStart => exact ⟨0, by omega, rfl, rfl, Hbr.out, Lib.hid (fun i hi => by omega)⟩
            case round =>
              rename World => x1
              obtain ⟨k2, hk2, rfl, rfl, hbr, HG⟩ := hrel
              have Hbr := Lib.hid hbr
              have Hbr2 := Lib.hid (Hb4.out.trans (hbr.mono Hb4.out.size))
              clear hbr
              by_cases hlt2 : k2 < r
              · have hlti2 : (k2 : Int) < (r : Int) := by omega
                obtain ⟨b5, o5, a5, c5, e5, hb5, q5, i5⟩ := (Hm.out.below Hbr2.out).row hlt2
                subst e5
                cases hs : dots 0 (rowF c (sqG zs c k2)) vl with
                | none =>
                  have Hdot := Lib.hid (rdotW (rowF_len _ _).symm Hnv.out i5 ((Hv.out.below Hb2.out).below Hbr2.out) (hI.out.row hlt2) Hvl.out (by omega) (by omega) _ (dotV_none hs).symm)
                  clear i5 hs
                  go_wp2_with fail
                  refine Hdot.out.mono ?_
                  rintro e x2 ⟨rfl, hb6⟩
                  have Hb6 := Lib.hid (Hbr2.out.trans (hb6.mono Hbr2.out.size))
                  clear hb6 q5
                  go_wp2
                  go_ret
                  exact ⟨rfl, (Hb2.out.trans (Hb6.out.mono Hb2.out.size))⟩
                | some s =>
                  have Hdot := Lib.hid (rdotW (rowF_len _ _).symm Hnv.out i5 ((Hv.out.below Hb2.out).below Hbr2.out) (hI.out.row hlt2) Hvl.out (by omega) (by omega) _ (dotV_some hs).symm)
                  by_cases hcn : c = nv
                  · have Hgd : Hid (goodR c (sqG zs c) vl k2) := Lib.hid ⟨hcn.trans Hnv.out, by rw [hs]; rfl⟩
                    have hne : ((nv : Int) != (c : Int)) = false := by simp [hcn]
                    clear i5 hs hcn
                    go_wp2_with fail
                    refine Hdot.out.mono ?_
                    rintro e x2 ⟨rfl, hb6⟩
                    have Hb6 := Lib.hid (Hbr.out.trans (hb6.mono Hbr.out.size))
                    clear hb6 q5
                    go_wp2
                    go_roundw
                    case rel => exact ⟨k2 + 1, by omega, rfl, by go_num, Hb6.out, Lib.hid (fun i hi => by
                      by_cases e : i = k2
                      · rw [e]; exact Hgd.out
                      · exact HG.out i (by omega))⟩
                    case measure => simp [intOf]; omega
                  · have hne : ((nv : Int) != (c : Int)) = true := by simp; omega
                    clear i5 hs hcn
                    go_wp2_with fail
                    refine Hdot.out.mono ?_
                    rintro e x2 ⟨rfl, hb6⟩
                    have Hb6 := Lib.hid (Hbr2.out.trans (hb6.mono Hbr2.out.size))
                    clear hb6 q5
                    go_wp2
                    go_ret
                    exact ⟨rfl, (Hb2.out.trans (Hb6.out.mono Hb2.out.size))⟩
              · obtain ⟨i, hi, hbad⟩ := HR.out
                exact absurd (HG.out i (by omega)) hbad
      · have Hwid : Hid (widthN r c = 0) := Lib.hid (by unfold widthN; rw [if_pos (by omega)])
        have hwid := Hwid.out
        rw [hwid]
        have hrpi : ¬ (0 : Int) < (r : Int) := by omega
        have hbe : ((nv : Int) == (r : Int)) = true := by simp [hlen]
        clear hwid hlen
        go_wp2
        rw [hc2]
        clear hc2
        go_loopw [15, 16] (fun cn i wr => cn = .bool true ∧ i = .int .i64 0 ∧ w4 = wr) (fun _ i _ => 0)
        case atStart => exact ⟨rfl, rfl, rfl⟩
        case round =>
          obtain ⟨rfl, rfl, rfl⟩ := hrel
          go_wp2
          go_loopw [21, 22] (fun cd i wr => ∃ k : Nat, k ≤ r ∧ cd = .bool true ∧ i = .int .i64 k ∧ Below w4.heap.size w4 wr ∧ Hid (∀ i, i < k → goodR c (sqG zs c) vl i)) (fun _ i _ => r - (intOf i).toNat)
          case atStart => exact ⟨0, by omega, rfl, rfl, Below.refl _ _, Lib.hid (fun i hi => by omega)⟩
          case round =>
            rename World => x1
            obtain ⟨k2, hk2, rfl, rfl, hbr, HG⟩ := hrel
            have Hbr := Lib.hid hbr
            have Hbr2 := Lib.hid (Hb4.out.trans (hbr.mono Hb4.out.size))
            clear hbr
            by_cases hlt2 : k2 < r
            · have hlti2 : (k2 : Int) < (r : Int) := by omega
              obtain ⟨b5, o5, a5, c5, e5, hb5, q5, i5⟩ := (Hm.out.below Hbr2.out).row hlt2
              subst e5
              cases hs : dots 0 (rowF c (sqG zs c k2)) vl with
              | none =>
                have Hdot := Lib.hid (rdotW (rowF_len _ _).symm Hnv.out i5 ((Hv.out.below Hb2.out).below Hbr2.out) (hI.out.row hlt2) Hvl.out (by omega) (by omega) _ (dotV_none hs).symm)
                clear i5 hs
                go_wp2_with fail
                refine Hdot.out.mono ?_
                rintro e x2 ⟨rfl, hb6⟩
                have Hb6 := Lib.hid (Hbr2.out.trans (hb6.mono Hbr2.out.size))
                clear hb6 q5
                go_wp2
                go_ret
                exact ⟨rfl, (Hb2.out.trans (Hb6.out.mono Hb2.out.size))⟩
              | some s =>
                have Hdot := Lib.hid (rdotW (rowF_len _ _).symm Hnv.out i5 ((Hv.out.below Hb2.out).below Hbr2.out) (hI.out.row hlt2) Hvl.out (by omega) (by omega) _ (dotV_some hs).symm)
                by_cases hcn : c = nv
                · have Hgd : Hid (goodR c (sqG zs c) vl k2) := Lib.hid ⟨hcn.trans Hnv.out, by rw [hs]; rfl⟩
                  have hne : ((nv : Int) != (c : Int)) = false := by simp [hcn]
                  clear i5 hs hcn
                  go_wp2_with fail
                  refine Hdot.out.mono ?_
                  rintro e x2 ⟨rfl, hb6⟩
                  have Hb6 := Lib.hid (Hbr.out.trans (hb6.mono Hbr.out.size))
                  clear hb6 q5
                  go_wp2
                  go_roundw
                  case rel => exact ⟨k2 + 1, by omega, rfl, by go_num, Hb6.out, Lib.hid (fun i hi => by
                    by_cases e : i = k2
                    · rw [e]; exact Hgd.out
                    · exact HG.out i (by omega))⟩
                  case measure => simp [intOf]; omega
                · have hne : ((nv : Int) != (c : Int)) = true := by simp; omega
                  clear i5 hs hcn
                  go_wp2_with fail
                  refine Hdot.out.mono ?_
                  rintro e x2 ⟨rfl, hb6⟩
                  have Hb6 := Lib.hid (Hbr2.out.trans (hb6.mono Hbr2.out.size))
                  clear hb6 q5
                  go_wp2
                  go_ret
                  exact ⟨rfl, (Hb2.out.trans (Hb6.out.mono Hb2.out.size))⟩
            · obtain ⟨i, hi, hbad⟩ := HR.out
              exact absurd (HG.out i (by omega)) hbad
  · go_wp2_with fail
    refine (Hright.out _ Hb3.out).mono ?_
    rintro e w4 ⟨hR, hb4⟩
    have Hb4 := Lib.hid (Hb3.out.trans (hb4.mono Hb3.out.size))
    have Hb40 := Lib.hid hb4
    clear hb4
    have fR : (∃ b, e = .returned (.tuple #[.slice (some ⟨b, 0, none⟩) r r, .bool true]) ∧ Hid ((∀ i, i < r → goodR c (sqG zs c) vl i) ∧ IntsAt w4 (.slice (some ⟨b, 0, none⟩) r r) (rowF r (dvR c (sqG zs c) vl)))) ∨ (e = .returned (.tuple #[.slice none 0 0, .bool false]) ∧ Hid (∃ i, i < r ∧ ¬ goodR c (sqG zs c) vl i)) := by
      rcases hR with ⟨h2, b, rfl, h3⟩ | ⟨h2, rfl⟩
      · exact .inl ⟨b, rfl, Lib.hid ⟨h2, h3.at_⟩⟩
      · exact .inr ⟨rfl, Lib.hid h2⟩
    clear hR
    rcases fR with ⟨b7, rfl, HR⟩ | ⟨rfl, HR⟩
    · have hlen : nv = r := by rw [Hnv.out]; exact HL.out.1
      have hrp : 0 < r := by
        obtain ⟨_, i, hi, _⟩ := HL.out
        unfold widthN at hi
        split at hi
        · omega
        · omega
      have Hwid : Hid (widthN r c = c) := Lib.hid (by unfold widthN; rw [if_neg (by omega)])
      have hrpi : (0 : Int) < (r : Int) := by omega
      have hbe : ((nv : Int) == (r : Int)) = true := by simp [hlen]
      clear hlen
      go_wp2
      rw [hc2]
      clear hc2
      go_loopw [15, 16] (fun cn i wr => ∃ k : Nat, k ≤ c ∧ cn = .bool true ∧ i = .int .i64 k ∧ Below w4.heap.size w4 wr ∧ Hid (∀ i, i < k → goodR r (fun i j => sqG zs c j i) vl i)) (fun _ i _ => c - (intOf i).toNat)
      case atStart => exact ⟨0, by omega, rfl, rfl, Below.refl _ _, Lib.hid (fun i hi => by omega)⟩
      case round =>
        rename World => v1
        obtain ⟨k, hk, rfl, rfl, hbr, HG⟩ := hrel
        have Hbr := Lib.hid hbr
        clear hbr
        by_cases hlt : k < c
        · have hlti : (k : Int) < (c : Int) := by omega
          go_wp2
          go_loopw [17, 18] (fun v i wr => ∃ j : Nat, j ≤ r ∧ i = .int .i64 j ∧ (∃ a c, v = .slice a j c) ∧ OwnI v1.heap.size wr v (rowF j (fun i => sqG zs c i k)) ∧ Below v1.heap.size v1 wr) (fun _ i _ => r - (intOf i).toNat)
          case atStart => exact ⟨0, by omega, rfl, ⟨_, _, rfl⟩, World.ownsRow_nil _ _ _ _, Below.refl _ _⟩
          case round =>
            rename World => v2
            obtain ⟨j, hj, rfl, ⟨ar, cr, rfl⟩, hor, hbc⟩ := hrel
            have Hbc := Lib.hid (Hbr.out.trans (hbc.mono Hbr.out.size))
            by_cases hltj : j < r
            · have hltji : (j : Int) < (r : Int) := by omega
              obtain ⟨b5, o5, a5, c5, e5, hb5, q5, i5⟩ := (Hm.out.below (Hb4.out.trans (Hbc.out.mono Hb4.out.size))).row hltj
              subst e5
              obtain ⟨b6, o6, e6, hb6, x6⟩ := rowAt_at i5 (k := k) hlt
              subst e6
              obtain ⟨v', w', hr, ho2, hk2, hv2⟩ := run_push_i 39 (sqG zs c j k) hor (by rw [rowF_len]; omega) hbc.size
              rw [← rowF_succ j (fun i => sqG zs c i k)] at ho2
              have hform := IntsAt.form ho2.at_
              rw [rowF_len] at hform
              have Ho2 := Lib.hid ho2
              have Hform := Lib.hid hform
              have Hbr3 : Hid (Below v1.heap.size v1 w') := Lib.hid (hbc.trans (hk2.below (fun i hi => (World.ownsRow.lt hor i hi).1) hbc.size))
              generalize sqG zs c j k = zz at x6 hr
              clear ho2 hk2 hv2 hform hor hbc i5
              go_wp2_with (at_builtin; refine wpList_append_eq rfl (.tmp 81) (.tmp 89) 39 rfl rfl rfl hr ?_)
              go_roundw
              case rel => exact ⟨j + 1, by omega, by go_num, Hform.out, Ho2.out, Hbr3.out⟩
              case measure => simp [intOf]; omega
            · have hgej : ¬ (j : Int) < (r : Int) := by omega
              obtain rfl : r = j := by omega
              cases hs : dots 0 vl (rowF r (fun i => sqG zs c i k)) with
              | none =>
                have Hdot := Lib.hid (rdotW Hnv.out (rowF_len _ _).symm ((Hv.out.below Hb2.out).below (Hb4.out.trans (Hbc.out.mono Hb4.out.size))) hor.at_ Hvl.out (col_ints hI.out hlt) (by omega) (by omega) _ (dotV_none hs).symm)
                clear hs hor hbc
                go_wp2_with fail
                refine Hdot.out.mono ?_
                rintro e x2 ⟨rfl, hb6⟩
                have Hb6 := Lib.hid (Hbc.out.trans (hb6.mono Hbc.out.size))
                clear hb6
                go_wp2
                go_loopw [21, 22] (fun cd i wr => ∃ k : Nat, k ≤ r ∧ cd = .bool true ∧ i = .int .i64 k ∧ Below w4.heap.size w4 wr) (fun _ i _ => r - (intOf i).toNat)
                case atStart => exact ⟨0, by omega, rfl, rfl, Hb6.out⟩
                case round =>
                  rename World => x1
                  obtain ⟨k2, hk2, rfl, rfl, hbr⟩ := hrel
                  have Hbr := Lib.hid hbr
                  have Hbr2 := Lib.hid (Hb4.out.trans (hbr.mono Hb4.out.size))
                  clear hbr
                  by_cases hlt2 : k2 < r
                  · have hlti2 : (k2 : Int) < (r : Int) := by omega
                    obtain ⟨b5, o5, a5, c5, e5, hb5, q5, i5⟩ := (Hm.out.below Hbr2.out).row hlt2
                    subst e5
                    have hgd := HR.out.1 k2 hlt2
                    have hcn : c = nv := hgd.1.trans Hnv.out.symm
                    subst hcn
                    obtain ⟨s, hs⟩ := Option.isSome_iff_exists.1 hgd.2
                    have hdv : dvR c (sqG zs c) vl k2 = s := by unfold dvR; rw [hs]; rfl
                    have Hdot := Lib.hid (rdotW (rowF_len _ _).symm Hnv.out i5 ((Hv.out.below Hb2.out).below Hbr2.out) (hI.out.row hlt2) Hvl.out (by omega) (by omega) _ (dotV_some hs).symm)
                    obtain ⟨b9, o9, e9, hb9, x9⟩ := rowAt_at (HR.out.2.below Hbr.out) hlt2
                    injection e9 with e9
                    injection e9 with e9 e9' _
                    subst e9 e9'
                    rw [hdv] at x9
                    rw [Nat.zero_add] at x9
                    clear i5 hgd hs hdv
                    go_wp2_with fail
                    refine Hdot.out.mono ?_
                    rintro e x2 ⟨rfl, hb6⟩
                    have x9' := (hb6.cell (p := ⟨b7, k2, none⟩) hb9).trans x9
                    have Hb6 := Lib.hid (Hbr.out.trans (hb6.mono Hbr.out.size))
                    clear hb6 x9 q5
                    go_wp2
                    go_roundw
                    case rel => exact ⟨k2 + 1, by omega, rfl, by go_num, Hb6.out⟩
                    case measure => simp [intOf]; omega
                  · have hge2 : ¬ (k2 : Int) < (r : Int) := by omega
                    go_wp2
                    go_ret
                    exact ⟨rfl, (Hb2.out.trans (Hbr2.out.mono Hb2.out.size))⟩
              | some s =>
                have Hgd : Hid (goodR r (fun i j => sqG zs c j i) vl k) := Lib.hid ⟨HL.out.1.symm, by rw [dots_comm, hs]; rfl⟩
                have Hdot := Lib.hid (rdotW Hnv.out (rowF_len _ _).symm ((Hv.out.below Hb2.out).below (Hb4.out.trans (Hbc.out.mono Hb4.out.size))) hor.at_ Hvl.out (col_ints hI.out hlt) (by omega) (by omega) _ (dotV_some hs).symm)
                clear hs hor hbc
                go_wp2_with fail
                refine Hdot.out.mono ?_
                rintro e x2 ⟨rfl, hb6⟩
                have Hb6 := Lib.hid (Hbc.out.trans (hb6.mono Hbc.out.size))
                clear hb6
                go_wp2
                go_roundw
                case rel => exact ⟨k + 1, by omega, rfl, by go_num, Hb6.out, Lib.hid (fun i hi => by
                  by_cases e : i = k
                  · rw [e]; exact Hgd.out
                  · exact HG.out i (by omega))⟩
                case measure => simp [intOf]; omega
        · obtain ⟨_, i, hi, hbad⟩ := HL.out
          rw [Hwid.out] at hi
          exact absurd (HG.out i (by omega)) hbad
    · have hlen : nv = r := by rw [Hnv.out]; exact HL.out.1
      have hrp : 0 < r := by
        obtain ⟨_, i, hi, _⟩ := HL.out
        unfold widthN at hi
        split at hi
        · omega
        · omega
      have Hwid : Hid (widthN r c = c) := Lib.hid (by unfold widthN; rw [if_neg (by omega)])
      have hrpi : (0 : Int) < (r : Int) := by omega
      have hbe : ((nv : Int) == (r : Int)) = true := by simp [hlen]
      clear hlen
      go_wp2
      rw [hc2]
      clear hc2
      go_loopw [15, 16] (fun cn i wr => ∃ k : Nat, k ≤ c ∧ cn = .bool true ∧ i = .int .i64 k ∧ Below w4.heap.size w4 wr ∧ Hid (∀ i, i < k → goodR r (fun i j => sqG zs c j i) vl i)) (fun _ i _ => c - (intOf i).toNat)
      case atStart => exact ⟨0, by omega, rfl, rfl, Below.refl _ _, Lib.hid (fun i hi => by omega)⟩
      case round =>
        rename World => v1
        obtain ⟨k, hk, rfl, rfl, hbr, HG⟩ := hrel
        have Hbr := Lib.hid hbr
        clear hbr
        by_cases hlt : k < c
        · have hlti : (k : Int) < (c : Int) := by omega
          go_wp2
          go_loopw [17, 18] (fun v i wr => ∃ j : Nat, j ≤ r ∧ i = .int .i64 j ∧ (∃ a c, v = .slice a j c) ∧ OwnI v1.heap.size wr v (rowF j (fun i => sqG zs c i k)) ∧ Below v1.heap.size v1 wr) (fun _ i _ => r - (intOf i).toNat)
          case atStart => exact ⟨0, by omega, rfl, ⟨_, _, rfl⟩, World.ownsRow_nil _ _ _ _, Below.refl _ _⟩
          case round =>
            rename World => v2
            obtain ⟨j, hj, rfl, ⟨ar, cr, rfl⟩, hor, hbc⟩ := hrel
            have Hbc := Lib.hid (Hbr.out.trans (hbc.mono Hbr.out.size))
            by_cases hltj : j < r
            · have hltji : (j : Int) < (r : Int) := by omega
              obtain ⟨b5, o5, a5, c5, e5, hb5, q5, i5⟩ := (Hm.out.below (Hb4.out.trans (Hbc.out.mono Hb4.out.size))).row hltj
              subst e5
              obtain ⟨b6, o6, e6, hb6, x6⟩ := rowAt_at i5 (k := k) hlt
              subst e6
              obtain ⟨v', w', hr, ho2, hk2, hv2⟩ := run_push_i 39 (sqG zs c j k) hor (by rw [rowF_len]; omega) hbc.size
              rw [← rowF_succ j (fun i => sqG zs c i k)] at ho2
              have hform := IntsAt.form ho2.at_
              rw [rowF_len] at hform
              have Ho2 := Lib.hid ho2
              have Hform := Lib.hid hform
              have Hbr3 : Hid (Below v1.heap.size v1 w') := Lib.hid (hbc.trans (hk2.below (fun i hi => (World.ownsRow.lt hor i hi).1) hbc.size))
              generalize sqG zs c j k = zz at x6 hr
              clear ho2 hk2 hv2 hform hor hbc i5
              go_wp2_with (at_builtin; refine wpList_append_eq rfl (.tmp 81) (.tmp 89) 39 rfl rfl rfl hr ?_)
              go_roundw
              case rel => exact ⟨j + 1, by omega, by go_num, Hform.out, Ho2.out, Hbr3.out⟩
              case measure => simp [intOf]; omega
            · have hgej : ¬ (j : Int) < (r : Int) := by omega
              obtain rfl : r = j := by omega
              cases hs : dots 0 vl (rowF r (fun i => sqG zs c i k)) with
              | none =>
                have Hdot := Lib.hid (rdotW Hnv.out (rowF_len _ _).symm ((Hv.out.below Hb2.out).below (Hb4.out.trans (Hbc.out.mono Hb4.out.size))) hor.at_ Hvl.out (col_ints hI.out hlt) (by omega) (by omega) _ (dotV_none hs).symm)
                clear hs hor hbc
                go_wp2_with fail
                refine Hdot.out.mono ?_
                rintro e x2 ⟨rfl, hb6⟩
                have Hb6 := Lib.hid (Hbc.out.trans (hb6.mono Hbc.out.size))
                clear hb6
                go_wp2
                go_loopw [21, 22] (fun cd i wr => ∃ k : Nat, k ≤ r ∧ cd = .bool true ∧ i = .int .i64 k ∧ Below w4.heap.size w4 wr ∧ Hid (∀ i, i < k → goodR c (sqG zs c) vl i)) (fun _ i _ => r - (intOf i).toNat)
                case atStart => exact ⟨0, by omega, rfl, rfl, Hb6.out, Lib.hid (fun i hi => by omega)⟩
                case round =>
                  rename World => x1
                  obtain ⟨k2, hk2, rfl, rfl, hbr, HG⟩ := hrel
                  have Hbr := Lib.hid hbr
                  have Hbr2 := Lib.hid (Hb4.out.trans (hbr.mono Hb4.out.size))
                  clear hbr
                  by_cases hlt2 : k2 < r
                  · have hlti2 : (k2 : Int) < (r : Int) := by omega
                    obtain ⟨b5, o5, a5, c5, e5, hb5, q5, i5⟩ := (Hm.out.below Hbr2.out).row hlt2
                    subst e5
                    cases hs : dots 0 (rowF c (sqG zs c k2)) vl with
                    | none =>
                      have Hdot := Lib.hid (rdotW (rowF_len _ _).symm Hnv.out i5 ((Hv.out.below Hb2.out).below Hbr2.out) (hI.out.row hlt2) Hvl.out (by omega) (by omega) _ (dotV_none hs).symm)
                      clear i5 hs
                      go_wp2_with fail
                      refine Hdot.out.mono ?_
                      rintro e x2 ⟨rfl, hb6⟩
                      have Hb6 := Lib.hid (Hbr2.out.trans (hb6.mono Hbr2.out.size))
                      clear hb6 q5
                      go_wp2
                      go_ret
                      exact ⟨rfl, (Hb2.out.trans (Hb6.out.mono Hb2.out.size))⟩
                    | some s =>
                      have Hdot := Lib.hid (rdotW (rowF_len _ _).symm Hnv.out i5 ((Hv.out.below Hb2.out).below Hbr2.out) (hI.out.row hlt2) Hvl.out (by omega) (by omega) _ (dotV_some hs).symm)
                      by_cases hcn : c = nv
                      · have Hgd : Hid (goodR c (sqG zs c) vl k2) := Lib.hid ⟨hcn.trans Hnv.out, by rw [hs]; rfl⟩
                        have hne : ((nv : Int) != (c : Int)) = false := by simp [hcn]
                        clear i5 hs hcn
                        go_wp2_with fail
                        refine Hdot.out.mono ?_
                        rintro e x2 ⟨rfl, hb6⟩
                        have Hb6 := Lib.hid (Hbr.out.trans (hb6.mono Hbr.out.size))
                        clear hb6 q5
                        go_wp2
                        go_roundw
                        case rel => exact ⟨k2 + 1, by omega, rfl, by go_num, Hb6.out, Lib.hid (fun i hi => by
                          by_cases e : i = k2
                          · rw [e]; exact Hgd.out
                          · exact HG.out i (by omega))⟩
                        case measure => simp [intOf]; omega
                      · have hne : ((nv : Int) != (c : Int)) = true := by simp; omega
                        clear i5 hs hcn
                        go_wp2_with fail
                        refine Hdot.out.mono ?_
                        rintro e x2 ⟨rfl, hb6⟩
                        have Hb6 := Lib.hid (Hbr2.out.trans (hb6.mono Hbr2.out.size))
                        clear hb6 q5
                        go_wp2
                        go_ret
                        exact ⟨rfl, (Hb2.out.trans (Hb6.out.mono Hb2.out.size))⟩
                  · obtain ⟨i, hi, hbad⟩ := HR.out
                    exact absurd (HG.out i (by omega)) hbad
              | some s =>
                have Hgd : Hid (goodR r (fun i j => sqG zs c j i) vl k) := Lib.hid ⟨HL.out.1.symm, by rw [dots_comm, hs]; rfl⟩
                have Hdot := Lib.hid (rdotW Hnv.out (rowF_len _ _).symm ((Hv.out.below Hb2.out).below (Hb4.out.trans (Hbc.out.mono Hb4.out.size))) hor.at_ Hvl.out (col_ints hI.out hlt) (by omega) (by omega) _ (dotV_some hs).symm)
                clear hs hor hbc
                go_wp2_with fail
                refine Hdot.out.mono ?_
                rintro e x2 ⟨rfl, hb6⟩
                have Hb6 := Lib.hid (Hbc.out.trans (hb6.mono Hbc.out.size))
                clear hb6
                go_wp2
                go_roundw
                case rel => exact ⟨k + 1, by omega, rfl, by go_num, Hb6.out, Lib.hid (fun i hi => by
                  by_cases e : i = k
                  · rw [e]; exact Hgd.out
                  · exact HG.out i (by omega))⟩
                case measure => simp [intOf]; omega
        · obtain ⟨_, i, hi, hbad⟩ := HL.out
          rw [Hwid.out] at hi
          exact absurd (HG.out i (by omega)) hbad
  · go_wp2_with fail
    refine (Hright.out _ Hb3.out).mono ?_
    rintro e w4 ⟨hR, hb4⟩
    have Hb4 := Lib.hid (Hb3.out.trans (hb4.mono Hb3.out.size))
    have Hb40 := Lib.hid hb4
    clear hb4
    have fR : (∃ b, e = .returned (.tuple #[.slice (some ⟨b, 0, none⟩) r r, .bool true]) ∧ Hid ((∀ i, i < r → goodR c (sqG zs c) vl i) ∧ IntsAt w4 (.slice (some ⟨b, 0, none⟩) r r) (rowF r (dvR c (sqG zs c) vl)))) ∨ (e = .returned (.tuple #[.slice none 0 0, .bool false]) ∧ Hid (∃ i, i < r ∧ ¬ goodR c (sqG zs c) vl i)) := by
      rcases hR with ⟨h2, b, rfl, h3⟩ | ⟨h2, rfl⟩
      · exact .inl ⟨b, rfl, Lib.hid ⟨h2, h3.at_⟩⟩
      · exact .inr ⟨rfl, Lib.hid h2⟩
    clear hR
    rcases fR with ⟨b7, rfl, HR⟩ | ⟨rfl, HR⟩
    · have hlen : nv ≠ r := by rw [Hnv.out]; exact HL.out
      have hbe : ((nv : Int) == (r : Int)) = false := by simp; omega
      clear hlen
      go_wp2
      rw [hc2]
      clear hc2
      go_loopw [15, 16] (fun cn i wr => cn = .bool false ∧ i = .int .i64 0 ∧ w4 = wr) (fun _ i _ => 0)
      case atStart => exact ⟨rfl, rfl, rfl⟩
      case round =>
        obtain ⟨rfl, rfl, rfl⟩ := hrel
        go_wp2
        go_loopw [21, 22] (fun cd i wr => ∃ k : Nat, k ≤ r ∧ cd = .bool true ∧ i = .int .i64 k ∧ Below w4.heap.size w4 wr) (fun _ i _ => r - (intOf i).toNat)
        case atStart => exact ⟨0, by omega, rfl, rfl, Below.refl _ _⟩
        case round =>
          rename World => x1
          obtain ⟨k2, hk2, rfl, rfl, hbr⟩ := hrel
          have Hbr := Lib.hid hbr
          have Hbr2 := Lib.hid (Hb4.out.trans (hbr.mono Hb4.out.size))
          clear hbr
          by_cases hlt2 : k2 < r
          · have hlti2 : (k2 : Int) < (r : Int) := by omega
            obtain ⟨b5, o5, a5, c5, e5, hb5, q5, i5⟩ := (Hm.out.below Hbr2.out).row hlt2
            subst e5
            have hgd := HR.out.1 k2 hlt2
            have hcn : c = nv := hgd.1.trans Hnv.out.symm
            subst hcn
            obtain ⟨s, hs⟩ := Option.isSome_iff_exists.1 hgd.2
            have hdv : dvR c (sqG zs c) vl k2 = s := by unfold dvR; rw [hs]; rfl
            have Hdot := Lib.hid (rdotW (rowF_len _ _).symm Hnv.out i5 ((Hv.out.below Hb2.out).below Hbr2.out) (hI.out.row hlt2) Hvl.out (by omega) (by omega) _ (dotV_some hs).symm)
            obtain ⟨b9, o9, e9, hb9, x9⟩ := rowAt_at (HR.out.2.below Hbr.out) hlt2
            injection e9 with e9
            injection e9 with e9 e9' _
            subst e9 e9'
            rw [hdv] at x9
            rw [Nat.zero_add] at x9
            clear i5 hgd hs hdv
            go_wp2_with fail
            refine Hdot.out.mono ?_
            rintro e x2 ⟨rfl, hb6⟩
            have x9' := (hb6.cell (p := ⟨b7, k2, none⟩) hb9).trans x9
            have Hb6 := Lib.hid (Hbr.out.trans (hb6.mono Hbr.out.size))
            clear hb6 x9 q5
            go_wp2
            go_roundw
            case rel => exact ⟨k2 + 1, by omega, rfl, by go_num, Hb6.out⟩
            case measure => simp [intOf]; omega
          · have hge2 : ¬ (k2 : Int) < (r : Int) := by omega
            go_wp2
            go_ret
            exact ⟨rfl, (Hb2.out.trans (Hbr2.out.mono Hb2.out.size))⟩
    · have hlen : nv ≠ r := by rw [Hnv.out]; exact HL.out
      have hbe : ((nv : Int) == (r : Int)) = false := by simp; omega
      clear hlen
      go_wp2
      rw [hc2]
      clear hc2
      go_loopw [15, 16] (fun cn i wr => cn = .bool false ∧ i = .int .i64 0 ∧ w4 = wr) (fun _ i _ => 0)
      case atStart => exact ⟨rfl, rfl, rfl⟩
      case round =>
        obtain ⟨rfl, rfl, rfl⟩ := hrel
        go_wp2
        go_loopw [21, 22] (fun cd i wr => ∃ k : Nat, k ≤ r ∧ cd = .bool true ∧ i = .int .i64 k ∧ Below w4.heap.size w4 wr ∧ Hid (∀ i, i < k → goodR c (sqG zs c) vl i)) (fun _ i _ => r - (intOf i).toNat)
        case atStart => exact ⟨0, by omega, rfl, rfl, Below.refl _ _, Lib.hid (fun i hi => by omega)⟩
        case round =>
          rename World => x1
          obtain ⟨k2, hk2, rfl, rfl, hbr, HG⟩ := hrel
          have Hbr := Lib.hid hbr
          have Hbr2 := Lib.hid (Hb4.out.trans (hbr.mono Hb4.out.size))
          clear hbr
          by_cases hlt2 : k2 < r
          · have hlti2 : (k2 : Int) < (r : Int) := by omega
            obtain ⟨b5, o5, a5, c5, e5, hb5, q5, i5⟩ := (Hm.out.below Hbr2.out).row hlt2
            subst e5
            cases hs : dots 0 (rowF c (sqG zs c k2)) vl with
            | none =>
              have Hdot := Lib.hid (rdotW (rowF_len _ _).symm Hnv.out i5 ((Hv.out.below Hb2.out).below Hbr2.out) (hI.out.row hlt2) Hvl.out (by omega) (by omega) _ (dotV_none hs).symm)
              clear i5 hs
              go_wp2_with fail
              refine Hdot.out.mono ?_
              rintro e x2 ⟨rfl, hb6⟩
              have Hb6 := Lib.hid (Hbr2.out.trans (hb6.mono Hbr2.out.size))
              clear hb6 q5
              go_wp2
              go_ret
              exact ⟨rfl, (Hb2.out.trans (Hb6.out.mono Hb2.out.size))⟩
            | some s =>
              have Hdot := Lib.hid (rdotW (rowF_len _ _).symm Hnv.out i5 ((Hv.out.below Hb2.out).below Hbr2.out) (hI.out.row hlt2) Hvl.out (by omega) (by omega) _ (dotV_some hs).symm)
              by_cases hcn : c = nv
              · have Hgd : Hid (goodR c (sqG zs c) vl k2) := Lib.hid ⟨hcn.trans Hnv.out, by rw [hs]; rfl⟩
                have hne : ((nv : Int) != (c : Int)) = false := by simp [hcn]
                clear i5 hs hcn
                go_wp2_with fail
                refine Hdot.out.mono ?_
                rintro e x2 ⟨rfl, hb6⟩
                have Hb6 := Lib.hid (Hbr.out.trans (hb6.mono Hbr.out.size))
                clear hb6 q5
                go_wp2
                go_roundw
                case rel => exact ⟨k2 + 1, by omega, rfl, by go_num, Hb6.out, Lib.hid (fun i hi => by
                  by_cases e : i = k2
                  · rw [e]; exact Hgd.out
                  · exact HG.out i (by omega))⟩
                case measure => simp [intOf]; omega
              · have hne : ((nv : Int) != (c : Int)) = true := by simp; omega
                clear i5 hs hcn
                go_wp2_with fail
                refine Hdot.out.mono ?_
                rintro e x2 ⟨rfl, hb6⟩
                have Hb6 := Lib.hid (Hbr2.out.trans (hb6.mono Hbr2.out.size))
                clear hb6 q5
                go_wp2
                go_ret
                exact ⟨rfl, (Hb2.out.trans (Hb6.out.mono Hb2.out.size))⟩
          · obtain ⟨i, hi, hbad⟩ := HR.out
            exact absurd (HG.out i (by omega)) hbad

theorem mtimes_law {w : World} {al av : Option Addr} {cl cv : Nat} {a1 a2 : Int} {zs vl : List Int} (u1 : (Lit.int .u8 a1).wf = true) (u2 : (Lit.int .u8 a2).wf = true) (hl : IntsAt w (.slice al zs.length cl) zs) (hv : IntsAt w (.slice av vl.length cv) vl) (hzs : Ints zs) (hvl : Ints vl) :
    Calls Try.prog 4 #[.slice al zs.length cl, .int .u8 a1, .int .u8 a2, .slice av vl.length cv] w fun e w' => e = .returned (.bool true) ∧ Below w.heap.size w w' := by
  have b1 := bounds_u8 u1
  have b2 := bounds_u8 u2
  by_cases h : zs.length ≤ 30
  · by_cases h8 : vl.length ≤ 8
    · exact mtimes_small (r := (a1 % 5).toNat) (c := (a2 % 5).toNat) b1 b2 (by omega) (by omega) rfl rfl hl hv hzs hvl h h8
    · exact mtimes_big (RowAt.max hl) (RowAt.max hv) (.inr ⟨h, by omega⟩)
  · exact mtimes_big (RowAt.max hl) (RowAt.max hv) (.inl (by omega))
end Go.Proofs.Ytpbbdnicafifpaa
