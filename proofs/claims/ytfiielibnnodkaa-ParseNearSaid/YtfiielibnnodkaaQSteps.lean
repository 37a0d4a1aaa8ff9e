/-
  The document's own parser: an error, a step, a sign, a number.
  Conditions: none beyond each theorem's own.
-/
import Derived.Test.YtfiielibnnodkaaQSmall
namespace Go.Proofs.Ytfiielibnnodkaa
open Go.RowKit
set_option linter.unusedVariables false

theorem good_drop {ts : List Tok} (h : Good ts) (k : Nat) (hk : k < ts.length) : Good (ts.drop k) := by
  induction k generalizing ts with
  | zero => simpa using h
  | succ k ih =>
    match ts, h with
    | [e], h => simp at hk
    | t :: u :: ts, h =>
      rw [List.drop_succ_cons]
      exact ih h.2.2.2 (by simpa using hk)
theorem good_next {T : List Tok} {i : Nat} (h : Good (T.drop i)) (hi : i + 1 < T.length) : Good (T.drop (i + 1)) := by
  have := good_drop h 1 (by rw [List.length_drop]; omega)
  rwa [List.drop_drop] at this

section
variable {w0 w w' : World} {R : Nat} {T : List Tok} {ns : List ByteArray} {more : List Row} {D : QD}

set_option maxRecDepth 100000 in
set_option maxHeartbeats 1000000 in
theorem fail_any (h : Q w0 w R T ns more D) (er : Int) :
    Calls Try.prog 46 #[.pointer (some ⟨R, 0, none⟩), .int .i64 er] w fun e w' => e = .returned (.tuple #[]) ∧ Q w0 w' R T ns more (failD T er D) := by
  unfold failD
  by_cases he : D.e = 0
  · rw [if_pos he]
    have h1 : Q w0 (w.setCell ⟨R, 2, none⟩ (.int .i64 er)) R T ns more { D with e := er } := h.setBox rfl rfl ⟨h.1, h.2.1⟩ (fun _ _ _ _ _ => rfl)
    obtain ⟨b0, off0, c0', vp0, vt0, vn0, vo0, hC0, -⟩ := h.cells
    have k2 := hC0.c2
    have kf := hC0.fz 2
    have kl := hC0.lt
    rw [he] at k2
    clear hC0
    go_enter Try.func46, Try.ntmps46
    go_upto_region 2 with (fail)
    clear k2 kf kl h he
    revert h1
    generalize w.setCell ⟨R, 2, none⟩ (.int .i64 er) = W
    intro h1
    obtain ⟨b, off, c, vp, vt, vn, vo, hC, hb, hmax, e0, e1, e2, e3⟩ := h1.cells
    obtain ⟨c0, c1, c2, c3, c4, c5, c6, c7, fz, lt⟩ := hC
    have fz3 := fz 3
    have hii : (D.i : Int) < (T.length : Int) := by have := h1.1; simp only at this; omega
    have H2 : Hid (Q w0 (W.setCell ⟨R, 3, none⟩ (.int .i64 (((D.hd T).at_ : Nat) : Int))) R T ns more { D with e := er, at_ := ((D.hd T).at_ : Int) }) := Lib.hid (h1.setBox rfl rfl ⟨h1.1, h1.2.1⟩ (fun _ _ _ _ _ => rfl))
    replace e3 : W.cell? ⟨b, off + D.i * 4 + 3, none⟩ = some (.int .i64 ((D.hd T).at_ : Int)) := e3
    replace c1 : W.cell? ⟨R, 1, none⟩ = some (.int .i64 (D.i : Int)) := c1
    replace c3 : W.cell? ⟨R, 3, none⟩ = some (.int .i64 D.at_) := c3
    clear h1 e0 e1 e2 c2 c4 c5 c6 c7 fz
    go_region
    go_wp2
    go_end0
    exact ⟨rfl, H2.out.go (Below.refl _ _).drew⟩
  · rw [if_neg he]
    obtain ⟨b, off, c, vp, vt, vn, vo, hC, -⟩ := h.cells
    have k2 := hC.c2
    have kl := hC.lt
    have heb : (D.e == 0) = false := by simpa using he
    have H := Lib.hid h
    clear hC h he
    go_enter Try.func46, Try.ntmps46
    go_wp2
    go_end0
    exact ⟨rfl, H.out⟩

set_option maxRecDepth 100000 in
set_option maxHeartbeats 1000000 in
theorem step_any (h : Q w0 w R T ns more D) :
    Calls Try.prog 45 #[.pointer (some ⟨R, 0, none⟩)] w fun e w' => e = .returned (.tuple #[]) ∧ Q w0 w' R T ns more (stepD T D) := by
  obtain ⟨b, off, c, vp, vt, vn, vo, hC, hb, hmax, -⟩ := h.cells
  obtain ⟨c0, c1, c2, c3, c4, c5, c6, c7, fz, lt⟩ := hC
  have fz1 := fz 1
  obtain ⟨n1, hn1⟩ : ∃ n1, n1 = T.length - 1 := ⟨_, rfl⟩
  have hpos := h.1
  have hww : IntKind.i64.wrap ((T.length : Int) - 1) = (n1 : Int) := by rw [show ((T.length : Int) - 1) = (n1 : Int) by omega]; simp [IntKind.wrap, IntKind.bits, IntKind.signed]; omega
  have hwp : (T.length : Int) - 1 = (n1 : Int) := by omega
  have H := Lib.hid h
  clear c3 c4 c5 c6 c7 fz
  unfold stepD
  by_cases he : D.e = 0
  · by_cases hi : D.i + 1 < T.length
    · rw [if_pos ⟨he, hi⟩]
      have hin : (D.i : Int) < (n1 : Int) := by omega
      have Hgn := Lib.hid (good_next h.2.1 hi)
      have Hi := Lib.hid hi
      rw [he] at c2
      have Hmx : Hid (T.length ≤ 9223372036854775807) := Lib.hid hmax
      have hb9 : (D.i : Int) + 1 ≤ 9223372036854775807 := by omega
      clear h he hi hn1 hpos
      go_enter Try.func45, Try.ntmps45
      go_wp2
      go_quiet (fail)
      have HQ : Hid (Q w0 ((w.drewN nq).setCell ⟨R, 1, none⟩ (.int .i64 ((D.i : Int) + 1))) R T ns more { D with i := D.i + 1 }) := Lib.hid ((H.out.go (below_drews (Below.refl _ _) nq)).setBox rfl rfl ⟨Hi.out, Hgn.out⟩ (fun _ _ _ _ _ => by simp [qCells]))
      go_wp2
      go_end0
      exact ⟨rfl, HQ.out⟩
    · rw [if_neg (fun e => hi e.2)]
      have hin : ¬ (D.i : Int) < (n1 : Int) := by omega
      have hinb : decide ((D.i : Int) < (n1 : Int)) = false := decide_eq_false hin
      rw [he] at c2
      clear h he hi hn1 hpos
      go_enter Try.func45, Try.ntmps45
      go_wp2
      go_quiet (fail)
      go_wp2
      go_end0
      exact ⟨rfl, H.out.go (below_drews (Below.refl _ _) _)⟩
  · rw [if_neg (fun e => he e.1)]
    have heb : (D.e == 0) = false := by simpa using he
    clear h he hn1 hpos
    go_enter Try.func45, Try.ntmps45
    go_wp2
    go_quiet (fail)
    go_wp2
    go_end0
    exact ⟨rfl, H.out.go (below_drews (Below.refl _ _) _)⟩

def signD (T : List Tok) (s : List UInt8) (D : QD) : QD := stepD T (if seesD T 3 s D = true then D else failD T 6 D)

set_option maxRecDepth 100000 in
theorem sign_any (h : Q w0 w R T ns more D) (s : List UInt8) :
    Calls Try.prog 49 #[.pointer (some ⟨R, 0, none⟩), .string (bs s)] w fun e w' => e = .returned (.tuple #[]) ∧ Q w0 w' R T ns more (signD T s D) := by
  have hs := sees_any h 3 s
  have H := Lib.hid h
  clear h
  unfold signD
  cases hq : seesD T 3 s D with
  | true =>
    rw [hq] at hs
    rw [if_pos rfl]
    clear hq
    go_enter Try.func49, Try.ntmps49
    go_wp2_with fail
    refine hs.mono ?_
    rintro e w1 ⟨rfl, hb⟩
    have hst := step_any (H.out.go hb)
    clear hb hs
    go_wp2_with fail
    refine hst.mono ?_
    rintro e w2 ⟨rfl, hQ⟩
    have HQ := Lib.hid hQ
    clear hQ hst
    go_wp2
    go_end0
    exact ⟨rfl, HQ.out⟩
  | false =>
    rw [hq] at hs
    rw [if_neg (by simp)]
    clear hq
    go_enter Try.func49, Try.ntmps49
    go_wp2_with fail
    refine hs.mono ?_
    rintro e w1 ⟨rfl, hb⟩
    have hf := fail_any (H.out.go hb) 6
    clear hb hs
    go_wp2_with fail
    refine hf.mono ?_
    rintro e w2 ⟨rfl, hQ⟩
    have hst := step_any hQ
    clear hQ hf
    go_wp2_with fail
    refine hst.mono ?_
    rintro e w3 ⟨rfl, hQ⟩
    have HQ := Lib.hid hQ
    clear hQ hst
    go_wp2
    go_end0
    exact ⟨rfl, HQ.out⟩

/-- a number from a least one on -/
def numD (T : List Tok) (least : Int) (D : QD) : Int × QD :=
  if seesD T 2 [] D = true then
    (((D.hd T).num : Int), stepD T (if ((D.hd T).num : Int) < least ∨ (1000000 : Int) < ((D.hd T).num : Int) then failD T 3 D else D))
  else (0, failD T 6 D)

set_option maxRecDepth 100000 in
set_option maxHeartbeats 1000000 in
theorem rnumber_any (h : Q w0 w R T ns more D) (least : Int) :
    Calls Try.prog 48 #[.pointer (some ⟨R, 0, none⟩), .int .i64 least] w fun e w' => e = .returned (.int .i64 (numD T least D).1) ∧ Q w0 w' R T ns more (numD T least D).2 := by
  have hs := sees_any h 2 []
  have H := Lib.hid h
  clear h
  unfold numD
  cases hq : seesD T 2 [] D with
  | true =>
    rw [hq] at hs
    rw [if_pos rfl]
    clear hq
    obtain ⟨N, hN⟩ : ∃ N, N = (D.hd T).num := ⟨_, rfl⟩
    rw [← hN]
    have HN := Lib.hid hN
    clear hN
    obtain ⟨E, hE⟩ : ∃ E, E = if (N : Int) < least ∨ (1000000 : Int) < (N : Int) then failD T 3 D else D := ⟨_, rfl⟩
    rw [← hE]
    have HE := Lib.hid hE
    clear hE
    go_enter Try.func48, Try.ntmps48
    go_wp2_with fail
    refine hs.mono ?_
    rintro e w1 ⟨rfl, hb⟩
    have hQ := H.out.go hb
    obtain ⟨b, off, c, vp, vt, vn, vo, hC, hbw, hmax, e0, e1, e2, e3⟩ := hQ.cells
    obtain ⟨c0, c1, c2, c3, c4, c5, c6, c7, fz, lt⟩ := hC
    have hii : (D.i : Int) < (T.length : Int) := by have := hQ.1; omega
    have HQ := Lib.hid hQ
    rw [← HN.out] at e2
    clear hb hs c2 c3 c4 c5 c6 c7 fz e0 e1 e3 hQ
    by_cases hn : (N : Int) < least ∨ (1000000 : Int) < (N : Int)
    · have hEe := HE.out
      rw [if_pos hn] at hEe
      subst hEe
      have Hn := Lib.hid hn
      clear hn
      go_wp2
      go_quiet (fail)
      have hf := fail_any (HQ.out.go (below_drews (Below.refl _ _) nq)) 3
      clear c0 c1 e2
      by_cases h1 : (N : Int) < least
      · go_wp2_with fail
        refine hf.mono ?_
        rintro e w2 ⟨rfl, hQ2⟩
        have hst := step_any hQ2
        clear hQ2 hf
        go_wp2_with fail
        refine hst.mono ?_
        rintro e w3 ⟨rfl, hQ3⟩
        have HQ3 := Lib.hid hQ3
        clear hQ3 hst
        go_wp2
        go_ret
        exact ⟨rfl, HQ3.out⟩
      · have h2 : (1000000 : Int) < (N : Int) := by have := Hn.out; omega
        go_wp2_with fail
        refine hf.mono ?_
        rintro e w2 ⟨rfl, hQ2⟩
        have hst := step_any hQ2
        clear hQ2 hf
        go_wp2_with fail
        refine hst.mono ?_
        rintro e w3 ⟨rfl, hQ3⟩
        have HQ3 := Lib.hid hQ3
        clear hQ3 hst
        go_wp2
        go_ret
        exact ⟨rfl, HQ3.out⟩
    · have hEe := HE.out
      rw [if_neg hn] at hEe
      subst hEe
      have h1 : ¬ (N : Int) < least := fun e => hn (.inl e)
      have h2 : ¬ (1000000 : Int) < (N : Int) := fun e => hn (.inr e)
      clear hn
      go_wp2
      go_quiet (fail)
      have hst := step_any (HQ.out.go (below_drews (Below.refl _ _) nq))
      clear c0 c1 e2
      go_wp2_with fail
      refine hst.mono ?_
      rintro e w3 ⟨rfl, hQ3⟩
      have HQ3 := Lib.hid hQ3
      clear hQ3 hst
      go_wp2
      go_ret
      exact ⟨rfl, HQ3.out⟩
  | false =>
    rw [hq] at hs
    rw [if_neg (by simp)]
    clear hq
    go_enter Try.func48, Try.ntmps48
    go_wp2_with fail
    refine hs.mono ?_
    rintro e w1 ⟨rfl, hb⟩
    have hf := fail_any (H.out.go hb) 6
    clear hb hs
    go_wp2_with fail
    refine hf.mono ?_
    rintro e w2 ⟨rfl, hQ⟩
    have HQ := Lib.hid hQ
    clear hQ hf
    go_wp2
    go_ret
    exact ⟨rfl, HQ.out⟩
end
end Go.Proofs.Ytfiielibnnodkaa
