/-
  The parser's lists, whatever their elements are.
  Conditions: none beyond each theorem's own.
-/
import Derived.Test.YtfiielibnnodkaaPLists
import Derived.Deep.LoopGhost
namespace Go.Proofs.Ytfiielibnnodkaa
open Go.RowKit
set_option linter.unusedVariables false

section
variable {w0 w w' : World} {R T br bq M : Nat} {vp vt : Value} {ps : List Pl} {l : List (Tr × Value × Value × Value)} {more : List Row} {ns : List (List UInt8)} {nm : ByteArray} {d p : Int} {x : LS}

theorem LSt.pass (h : LSt w0 R M vp vt ps l more T br bq nm d p x w) (s : List UInt8) (hs0 : s ≠ []) :
    Calls Try.prog 74 #[.pointer (some ⟨R, 0, none⟩), .string (bs s)] w fun e w' => e = .returned (.bool (decide ((hd x.ts).text = s))) ∧ LSt w0 R M vp vt ps l more T br bq nm d p { x with ts := if (hd x.ts).text = s then x.ts.tail else x.ts } w' := by
  obtain ⟨hok, hg, v1, v2, v3, hS⟩ := h
  refine (pass_any hS hg s hs0).mono ?_
  rintro e w1 ⟨h1, h2⟩
  refine ⟨h1, ⟨hok.a1, hok.a2, hok.a3⟩, ?_, v1, v2, v3, h2⟩
  by_cases hs : (hd x.ts).text = s
  · rw [if_pos hs]; exact hg.tailS hs0 hs
  · rw [if_neg hs]; exact hg
theorem LSt.must (h : LSt w0 R M vp vt ps l more T br bq nm d p x w) (s : List UInt8) (hs0 : s ≠ []) :
    Calls Try.prog 54 #[.pointer (some ⟨R, 0, none⟩), .string (bs s)] w fun e w' => e = .returned (.int .i64 (if (hd x.ts).text = s then 0 else 6)) ∧ LSt w0 R M vp vt ps l more T br bq nm d p { x with ts := if (hd x.ts).text = s then x.ts.tail else x.ts } w' := by
  obtain ⟨hok, hg, v1, v2, v3, hS⟩ := h
  refine (must_any hS hg s hs0).mono ?_
  rintro e w1 ⟨h1, h2⟩
  refine ⟨h1, ⟨hok.a1, hok.a2, hok.a3⟩, ?_, v1, v2, v3, h2⟩
  by_cases hs : (hd x.ts).text = s
  · rw [if_pos hs]; exact hg.tailS hs0 hs
  · rw [if_neg hs]; exact hg
theorem LSt.next (h : LSt w0 R M vp vt ps l more T br bq nm d p x w) :
    Calls Try.prog 35 #[.pointer (some ⟨R, 0, none⟩)] w fun e w' => e = .returned (tokV (hd x.ts)) ∧ LSt w0 R M vp vt ps l more T br bq nm d p x w' := by
  obtain ⟨hok, hg, v1, v2, v3, hS⟩ := h
  refine (next_any hS hg).mono ?_
  rintro e w1 ⟨h1, h2⟩
  exact ⟨h1, hok, hg, v1, v2, v3, hS.go h2⟩

/-- an element's contract -/
def Elem (w0 : World) (R M : Nat) (vp vt : Value) (ps : List Pl) (l : List (Tr × Value × Value × Value)) (more : List Row) (T br bq : Nat) (nm : ByteArray) (d p : Int) (F : FuncId) (step : LS → LS × Int) : Prop :=
  ∀ x w, LSt w0 R M vp vt ps l more T br bq nm d p x w → Calls Try.prog F #[.pointer (some ⟨br, 0, none⟩), .pointer (some ⟨bq, 0, none⟩)] w fun e w' => e = .returned (.int .i64 (step x).2) ∧ LSt w0 R M vp vt ps l more T br bq nm d p (step x).1 w'

theorem listG_no {step : LS → LS × Int} {f : Nat} {x : LS} (h : (step x).2 ≠ 0) : listG step (f + 1) x = step x := by rw [listG, if_pos h]
theorem listG_stop {step : LS → LS × Int} {f : Nat} {x : LS} (h : (step x).2 = 0) (hs : ¬ (hd (step x).1.ts).text = [44]) : listG step (f + 1) x = ((step x).1, 0) := by rw [listG, if_neg (by simp [h]), if_neg hs]
theorem listG_go {step : LS → LS × Int} {f : Nat} {x : LS} (h : (step x).2 = 0) (hs : (hd (step x).1.ts).text = [44]) : listG step (f + 1) x = listG step f { (step x).1 with ts := (step x).1.ts.tail } := by rw [listG, if_neg (by simp [h]), if_pos hs]

set_option maxRecDepth 100000 in
set_option maxHeartbeats 2000000 in
theorem list_look {step : LS → LS × Int} (hE : Elem w0 R M vp vt ps l more T br bq nm d p 99 step) (hsh : Shrinks step) (stop : List UInt8) (h : LSt w0 R M vp vt ps l more T br bq nm d p x w) :
    Calls Try.prog 101 #[.pointer (some ⟨R, 0, none⟩), .func (.func 99) #[] #[.pointer (some ⟨br, 0, none⟩), .pointer (some ⟨bq, 0, none⟩)], .string (bs stop)] w fun e w' => e = .returned (.int .i64 (listTop step stop x).2) ∧ LSt w0 R M vp vt ps l more T br bq nm d p (listTop step stop x).1 w' := by
  have hnx := h.next
  unfold tokV at hnx
  obtain ⟨A, hA⟩ : ∃ A, A = listTop step stop x := ⟨_, rfl⟩
  rw [← hA]
  have HE := Lib.hid hE
  have Hsh := Lib.hid hsh
  have hq := bs_eq (hd x.ts).text stop
  have hf := Try.tok_text ((hd x.ts).kind : Int) (bs (hd x.ts).text) ((hd x.ts).num : Int) ((hd x.ts).at_ : Int)
  clear h hE hsh
  by_cases hs : (hd x.ts).text = stop
  · rw [decide_eq_true hs] at hq
    have HA : Hid (A = (x, 0)) := Lib.hid (by rw [hA]; unfold listTop; rw [if_pos hs])
    clear hs hA
    go_enter Try.func101, Try.ntmps101
    go_wp2_with fail
    refine hnx.mono ?_
    rintro e w1 ⟨rfl, hS⟩
    have HS := Lib.hid hS
    clear hS hnx
    go_wp2
    go_ret
    rw [HA.out]
    exact ⟨rfl, HS.out⟩
  · rw [decide_eq_false hs] at hq
    have HA : Hid (A = listG step x.ts.length x) := Lib.hid (by rw [hA]; unfold listTop; rw [if_neg hs])
    clear hs hA
    go_enter Try.func101, Try.ntmps101
    go_wp2_with fail
    refine hnx.mono ?_
    rintro e w1 ⟨rfl, hS⟩
    have HS := Lib.hid hS
    clear hS hnx
    go_wp2
    go_loopg [7] x.ts.length (fun k s7 wr => ∃ x', LSt w0 R M vp vt ps l more T br bq nm d p x' wr ∧ x'.ts.length ≤ k ∧ Hid (A = listG step k x'))
    case atStart => exact ⟨x, HS.out, Nat.le_refl _, HA⟩
    case round =>
      obtain ⟨y, hL, hlen, Hk⟩ := hrel
      have hpos := hL.2.1.len
      obtain ⟨k, rfl⟩ : ∃ k, gk = k + 1 := ⟨gk - 1, by omega⟩
      have hel := HE.out y wr hL
      have Hgo := Lib.hid (Hsh.out y hL.2.1)
      clear hq hf hL HS hpos
      by_cases he : (step y).2 = 0
      · rw [he] at hel
        have He := Lib.hid he
        clear he
        by_cases hc : (hd (step y).1.ts).text = [44]
        · go_wp2_with fail
          refine hel.mono ?_
          rintro e w2 ⟨rfl, hS2⟩
          have hp := hS2.pass [44] (by simp)
          rw [if_pos hc, decide_eq_true hc] at hp
          have Hc := Lib.hid hc
          clear hS2 hel hc
          go_wp2_with fail
          refine hp.mono ?_
          rintro e w3 ⟨rfl, hS3⟩
          have HS3 := Lib.hid hS3
          clear hS3 hp
          go_wp2
          go_roundg k
          case rel => exact ⟨_, HS3.out, by have h1 := tail_len Hgo.out.1; have h2 := Hgo.out.2.1; simp only; omega, Lib.hid (by rw [Hk.out, listG_go He.out Hc.out])⟩
          case measure => omega
        · go_wp2_with fail
          refine hel.mono ?_
          rintro e w2 ⟨rfl, hS2⟩
          have hp := hS2.pass [44] (by simp)
          rw [if_neg hc, decide_eq_false hc] at hp
          have Hc := Lib.hid hc
          clear hS2 hel hc
          go_wp2_with fail
          refine hp.mono ?_
          rintro e w3 ⟨rfl, hS3⟩
          have HS3 := Lib.hid hS3
          clear hS3 hp
          go_wp2
          go_ret
          rw [Hk.out, listG_stop He.out Hc.out]
          exact ⟨rfl, HS3.out⟩
      · have hel' := hel
        obtain ⟨er, her⟩ : ∃ r, r = (step y).2 := ⟨_, rfl⟩
        rw [← her] at hel
        have hne : (er == 0) = false := by rw [her]; simpa using he
        have He := Lib.hid he
        have Her := Lib.hid her
        clear he hel' her
        go_wp2_with fail
        refine hel.mono ?_
        rintro e w2 ⟨rfl, hS2⟩
        have HS2 := Lib.hid hS2
        clear hS2 hel
        go_wp2
        go_ret
        rw [Hk.out, listG_no He.out]
        exact ⟨by rw [Her.out]; rfl, HS2.out⟩

set_option maxRecDepth 100000 in
set_option maxHeartbeats 2000000 in
theorem list_out {step : LS → LS × Int} (hE : Elem w0 R M vp vt ps l more T br bq nm d p 102 step) (hsh : Shrinks step) (stop : List UInt8) (h : LSt w0 R M vp vt ps l more T br bq nm d p x w) :
    Calls Try.prog 101 #[.pointer (some ⟨R, 0, none⟩), .func (.func 102) #[] #[.pointer (some ⟨br, 0, none⟩), .pointer (some ⟨bq, 0, none⟩)], .string (bs stop)] w fun e w' => e = .returned (.int .i64 (listTop step stop x).2) ∧ LSt w0 R M vp vt ps l more T br bq nm d p (listTop step stop x).1 w' := by
  have hnx := h.next
  unfold tokV at hnx
  obtain ⟨A, hA⟩ : ∃ A, A = listTop step stop x := ⟨_, rfl⟩
  rw [← hA]
  have HE := Lib.hid hE
  have Hsh := Lib.hid hsh
  have hq := bs_eq (hd x.ts).text stop
  have hf := Try.tok_text ((hd x.ts).kind : Int) (bs (hd x.ts).text) ((hd x.ts).num : Int) ((hd x.ts).at_ : Int)
  clear h hE hsh
  by_cases hs : (hd x.ts).text = stop
  · rw [decide_eq_true hs] at hq
    have HA : Hid (A = (x, 0)) := Lib.hid (by rw [hA]; unfold listTop; rw [if_pos hs])
    clear hs hA
    go_enter Try.func101, Try.ntmps101
    go_wp2_with fail
    refine hnx.mono ?_
    rintro e w1 ⟨rfl, hS⟩
    have HS := Lib.hid hS
    clear hS hnx
    go_wp2
    go_ret
    rw [HA.out]
    exact ⟨rfl, HS.out⟩
  · rw [decide_eq_false hs] at hq
    have HA : Hid (A = listG step x.ts.length x) := Lib.hid (by rw [hA]; unfold listTop; rw [if_neg hs])
    clear hs hA
    go_enter Try.func101, Try.ntmps101
    go_wp2_with fail
    refine hnx.mono ?_
    rintro e w1 ⟨rfl, hS⟩
    have HS := Lib.hid hS
    clear hS hnx
    go_wp2
    go_loopg [7] x.ts.length (fun k s7 wr => ∃ x', LSt w0 R M vp vt ps l more T br bq nm d p x' wr ∧ x'.ts.length ≤ k ∧ Hid (A = listG step k x'))
    case atStart => exact ⟨x, HS.out, Nat.le_refl _, HA⟩
    case round =>
      obtain ⟨y, hL, hlen, Hk⟩ := hrel
      have hpos := hL.2.1.len
      obtain ⟨k, rfl⟩ : ∃ k, gk = k + 1 := ⟨gk - 1, by omega⟩
      have hel := HE.out y wr hL
      have Hgo := Lib.hid (Hsh.out y hL.2.1)
      clear hq hf hL HS hpos
      by_cases he : (step y).2 = 0
      · rw [he] at hel
        have He := Lib.hid he
        clear he
        by_cases hc : (hd (step y).1.ts).text = [44]
        · go_wp2_with fail
          refine hel.mono ?_
          rintro e w2 ⟨rfl, hS2⟩
          have hp := hS2.pass [44] (by simp)
          rw [if_pos hc, decide_eq_true hc] at hp
          have Hc := Lib.hid hc
          clear hS2 hel hc
          go_wp2_with fail
          refine hp.mono ?_
          rintro e w3 ⟨rfl, hS3⟩
          have HS3 := Lib.hid hS3
          clear hS3 hp
          go_wp2
          go_roundg k
          case rel => exact ⟨_, HS3.out, by have h1 := tail_len Hgo.out.1; have h2 := Hgo.out.2.1; simp only; omega, Lib.hid (by rw [Hk.out, listG_go He.out Hc.out])⟩
          case measure => omega
        · go_wp2_with fail
          refine hel.mono ?_
          rintro e w2 ⟨rfl, hS2⟩
          have hp := hS2.pass [44] (by simp)
          rw [if_neg hc, decide_eq_false hc] at hp
          have Hc := Lib.hid hc
          clear hS2 hel hc
          go_wp2_with fail
          refine hp.mono ?_
          rintro e w3 ⟨rfl, hS3⟩
          have HS3 := Lib.hid hS3
          clear hS3 hp
          go_wp2
          go_ret
          rw [Hk.out, listG_stop He.out Hc.out]
          exact ⟨rfl, HS3.out⟩
      · have hel' := hel
        obtain ⟨er, her⟩ : ∃ r, r = (step y).2 := ⟨_, rfl⟩
        rw [← her] at hel
        have hne : (er == 0) = false := by rw [her]; simpa using he
        have He := Lib.hid he
        have Her := Lib.hid her
        clear he hel' her
        go_wp2_with fail
        refine hel.mono ?_
        rintro e w2 ⟨rfl, hS2⟩
        have HS2 := Lib.hid hS2
        clear hS2 hel
        go_wp2
        go_ret
        rw [Hk.out, listG_no He.out]
        exact ⟨by rw [Her.out]; rfl, HS2.out⟩

end
end Go.Proofs.Ytfiielibnnodkaa
