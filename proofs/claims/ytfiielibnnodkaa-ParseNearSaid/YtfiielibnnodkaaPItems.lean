/-
  The parser's items, one behind the other.
  Conditions: none beyond each theorem's own.
-/
import Derived.Test.YtfiielibnnodkaaPTrans
import Derived.Deep.LoopGhost
namespace Go.Proofs.Ytfiielibnnodkaa
open Go.RowKit
set_option linter.unusedVariables false

/-- the parser between two items -/
def PSt (w0 : World) (R M : Nat) (n : Nt) (ts : List Tok) (w : World) : Prop :=
  n.places.length ≤ 32 ∧ n.trans.length ≤ 32 ∧ Good ts ∧ ∃ vp vt l, l.map (·.1) = n.trans ∧ St w0 w R (.map (some M)) vp vt ts n.places l []

theorem placeG_small {n : Nt} {ts : List Tok} (h : n.places.length ≤ 32) : (placeG n ts).1.places.length ≤ 32 ∧ (placeG n ts).1.trans = n.trans := by
  unfold placeG
  split
  · exact ⟨h, rfl⟩
  · split
    · exact ⟨h, rfl⟩
    · split
      · exact ⟨h, rfl⟩
      · exact ⟨by simp; omega, rfl⟩
theorem transG_small {ns : List (List UInt8)} {n : Nt} {ts : List Tok} (h : n.trans.length ≤ 32) : (transG ns n ts).1.trans.length ≤ 32 ∧ (transG ns n ts).1.places = n.places := by
  unfold transG
  split
  · exact ⟨h, rfl⟩
  · split
    · exact ⟨h, rfl⟩
    · split
      · exact ⟨h, rfl⟩
      · exact ⟨by simp; omega, rfl⟩

section
variable {w0 w w' : World} {R M : Nat} {ts : List Tok} {n : Nt} {ns : List (List UInt8)}

theorem PSt.place (h : PSt w0 R M n ts w) : Calls Try.prog 75 #[.pointer (some ⟨R, 0, none⟩)] w fun e w' => e = .returned (.int .i64 (placeG n ts).2.1) ∧ PSt w0 R M (placeG n ts).1 (placeG n ts).2.2 w' := by
  obtain ⟨h1, h2, hg, vp, vt, l, hl, hS⟩ := h
  have e : ntOf' n.places l = n := by unfold ntOf'; rw [hl]
  have h3 := place_reader hS hg h1
  rw [e] at h3
  refine h3.mono ?_
  rintro e w' ⟨h4, vp', h5⟩
  obtain ⟨k1, k2⟩ := placeG_small (ts := ts) h1
  exact ⟨h4, k1, by rw [k2]; exact h2, (placeG_rest hg).1, vp', vt, l, by rw [k2]; exact hl, h5⟩
theorem PSt.trans_ (hM : SMap w0 M ns) (h : PSt w0 R M n ts w) : Calls Try.prog 76 #[.pointer (some ⟨R, 0, none⟩)] w fun e w' => e = .returned (.int .i64 (transG ns n ts).2.1) ∧ PSt w0 R M (transG ns n ts).1 (transG ns n ts).2.2 w' := by
  obtain ⟨h1, h2, hg, vp, vt, l, hl, hS⟩ := h
  have e : ntOf' n.places l = n := by unfold ntOf'; rw [hl]
  have hll : l.length ≤ 32 := by rw [← hl] at h2; simpa using h2
  have h3 := trans_reader hM hS hg hll
  rw [e] at h3
  refine h3.mono ?_
  rintro e w' ⟨h4, vt', l', h5, h6⟩
  obtain ⟨k1, k2⟩ := transG_small (ns := ns) (ts := ts) h2
  exact ⟨h4, by rw [k2]; exact h1, k1, (transG_rest hg).1, vp, vt', l', h5, h6⟩
theorem PSt.pass (h : PSt w0 R M n ts w) (s : List UInt8) (hs0 : s ≠ []) :
    Calls Try.prog 74 #[.pointer (some ⟨R, 0, none⟩), .string (bs s)] w fun e w' => e = .returned (.bool (decide ((hd ts).text = s))) ∧ PSt w0 R M n (if (hd ts).text = s then ts.tail else ts) w' := by
  obtain ⟨h1, h2, hg, vp, vt, l, hl, hS⟩ := h
  refine (pass_any hS hg s hs0).mono ?_
  rintro e w1 ⟨h3, h4⟩
  refine ⟨h3, h1, h2, ?_, vp, vt, l, hl, h4⟩
  by_cases hs : (hd ts).text = s
  · rw [if_pos hs]; exact hg.tailS hs0 hs
  · rw [if_neg hs]; exact hg
theorem PSt.must (h : PSt w0 R M n ts w) (s : List UInt8) (hs0 : s ≠ []) :
    Calls Try.prog 54 #[.pointer (some ⟨R, 0, none⟩), .string (bs s)] w fun e w' => e = .returned (.int .i64 (if (hd ts).text = s then 0 else 6)) ∧ PSt w0 R M n (if (hd ts).text = s then ts.tail else ts) w' := by
  obtain ⟨h1, h2, hg, vp, vt, l, hl, hS⟩ := h
  refine (must_any hS hg s hs0).mono ?_
  rintro e w1 ⟨h3, h4⟩
  refine ⟨h3, h1, h2, ?_, vp, vt, l, hl, h4⟩
  by_cases hs : (hd ts).text = s
  · rw [if_pos hs]; exact hg.tailS hs0 hs
  · rw [if_neg hs]; exact hg
theorem PSt.next (h : PSt w0 R M n ts w) :
    Calls Try.prog 35 #[.pointer (some ⟨R, 0, none⟩)] w fun e w' => e = .returned (tokV (hd ts)) ∧ PSt w0 R M n ts w' := by
  obtain ⟨h1, h2, hg, vp, vt, l, hl, hS⟩ := h
  refine (next_any hS hg).mono ?_
  rintro e w1 ⟨h3, h4⟩
  exact ⟨h3, h1, h2, hg, vp, vt, l, hl, hS.go h4⟩

set_option maxRecDepth 100000 in
theorem item_reader (hM : SMap w0 M ns) (h : PSt w0 R M n ts w) :
    Calls Try.prog 53 #[.pointer (some ⟨R, 0, none⟩)] w fun e w' => e = .returned (.int .i64 (itemG ns n ts).2.1) ∧ PSt w0 R M (itemG ns n ts).1 (itemG ns n ts).2.2 w' := by
  have hp := h.pass wPlace (by simp [wPlace])
  have HM := Lib.hid hM
  clear h hM
  unfold itemG
  by_cases h1 : (hd ts).text = wPlace
  · rw [if_pos h1] at hp ⊢
    rw [decide_eq_true h1] at hp
    clear h1
    go_enter Try.func53, Try.ntmps53
    go_wp2_with fail
    refine hp.mono ?_
    rintro e w1 ⟨rfl, hS⟩
    have hpl := hS.place
    clear hS hp
    go_wp2_with fail
    refine hpl.mono ?_
    rintro e w2 ⟨rfl, hS⟩
    have HS := Lib.hid hS
    clear hS hpl
    go_wp2
    go_ret
    exact ⟨rfl, HS.out⟩
  · rw [if_neg h1] at hp ⊢
    rw [decide_eq_false h1] at hp
    clear h1
    by_cases h2 : (hd ts).text = wTrans
    · rw [if_pos h2]
      go_enter Try.func53, Try.ntmps53
      go_wp2_with fail
      refine hp.mono ?_
      rintro e w1 ⟨rfl, hS⟩
      have hp2 := hS.pass wTrans (by simp [wTrans])
      rw [if_pos h2, decide_eq_true h2] at hp2
      clear hS hp h2
      go_wp2_with fail
      refine hp2.mono ?_
      rintro e w2 ⟨rfl, hS⟩
      have htr := hS.trans_ HM.out
      clear hS hp2
      go_wp2_with fail
      refine htr.mono ?_
      rintro e w3 ⟨rfl, hS⟩
      have HS := Lib.hid hS
      clear hS htr
      go_wp2
      go_ret
      exact ⟨rfl, HS.out⟩
    · rw [if_neg h2]
      go_enter Try.func53, Try.ntmps53
      go_wp2_with fail
      refine hp.mono ?_
      rintro e w1 ⟨rfl, hS⟩
      have hp2 := hS.pass wTrans (by simp [wTrans])
      rw [if_neg h2, decide_eq_false h2] at hp2
      clear hS hp h2
      go_wp2_with fail
      refine hp2.mono ?_
      rintro e w2 ⟨rfl, hS⟩
      have HS := Lib.hid hS
      clear hS hp2
      go_wp2
      go_ret
      exact ⟨rfl, HS.out⟩

theorem itemsG_end {f : Nat} (h : (hd ts).kind = 0) : itemsG ns (f + 1) n ts = (n, 0, ts) := by rw [itemsG, if_pos h]
theorem itemsG_err {f : Nat} (h : (hd ts).kind ≠ 0) (he : (itemG ns n ts).2.1 ≠ 0) : itemsG ns (f + 1) n ts = itemG ns n ts := by rw [itemsG, if_neg h, if_pos he]
theorem itemsG_semi {f : Nat} (h : (hd ts).kind ≠ 0) (he : (itemG ns n ts).2.1 = 0) (hs : ¬ (hd (itemG ns n ts).2.2).text = [59]) : itemsG ns (f + 1) n ts = ((itemG ns n ts).1, 6, (itemG ns n ts).2.2) := by rw [itemsG, if_neg h, if_neg (by simp [he]), if_neg hs]
theorem itemsG_go {f : Nat} (h : (hd ts).kind ≠ 0) (he : (itemG ns n ts).2.1 = 0) (hs : (hd (itemG ns n ts).2.2).text = [59]) : itemsG ns (f + 1) n ts = itemsG ns f (itemG ns n ts).1 (itemG ns n ts).2.2.tail := by rw [itemsG, if_neg h, if_neg (by simp [he]), if_pos hs]

set_option maxRecDepth 100000 in
set_option maxHeartbeats 2000000 in
theorem items_reader (hM : SMap w0 M ns) (h : PSt w0 R M n ts w) :
    Calls Try.prog 33 #[.pointer (some ⟨R, 0, none⟩)] w fun e w' => e = .returned (.int .i64 (itemsG ns ts.length n ts).2.1) ∧ PSt w0 R M (itemsG ns ts.length n ts).1 (itemsG ns ts.length n ts).2.2 w' := by
  obtain ⟨A, hA⟩ : ∃ A, A = itemsG ns ts.length n ts := ⟨_, rfl⟩
  rw [← hA]
  have HA := Lib.hid hA
  have HM := Lib.hid hM
  have H := Lib.hid h
  clear hA hM h
  go_enter Try.func33, Try.ntmps33
  go_wp2
  go_loopg [3, 4] ts.length (fun k s3 s4 wr => ∃ n' us, PSt w0 R M n' us wr ∧ us.length ≤ k ∧ Hid (A = itemsG ns k n' us))
  case atStart => exact ⟨n, ts, H.out, Nat.le_refl _, HA⟩
  case round =>
    obtain ⟨m, us, hP, hlen, Hk⟩ := hrel
    have hg := hP.2.2.1
    have hpos := hg.len
    obtain ⟨k, rfl⟩ : ∃ k, gk = k + 1 := ⟨gk - 1, by omega⟩
    have hnx := hP.next
    unfold tokV at hnx
    have hf := Try.tok_kind ((hd us).kind : Int) (bs (hd us).text) ((hd us).num : Int) ((hd us).at_ : Int)
    have Hg := Lib.hid hg
    clear hg hP hpos H
    by_cases hk : (hd us).kind = 0
    · have hkb : ((((hd us).kind : Nat) : Int) == 0) = true := by rw [hk]; rfl
      have HA2 : Hid (A = (m, 0, us)) := Lib.hid (by rw [Hk.out, itemsG_end hk])
      clear hk
      go_wp2_with fail
      refine hnx.mono ?_
      rintro e w1 ⟨rfl, hS⟩
      have HS := Lib.hid hS
      clear hS hnx
      go_wp2
      go_ret
      rw [HA2.out]
      exact ⟨rfl, HS.out⟩
    · have hkb : ((((hd us).kind : Nat) : Int) == 0) = false := by simp; omega
      have Hkk := Lib.hid hk
      clear hk
      go_wp2_with fail
      refine hnx.mono ?_
      rintro e w1 ⟨rfl, hS⟩
      have hit := item_reader HM.out hS
      have Hre := Lib.hid (itemG_rest (ns := ns) (n := m) Hg.out)
      have Hgo := Lib.hid (fun f => itemsG_go (ns := ns) (n := m) (ts := us) (f := f) Hkk.out)
      have Hse := Lib.hid (fun f => itemsG_semi (ns := ns) (n := m) (ts := us) (f := f) Hkk.out)
      have Her := Lib.hid (fun f => itemsG_err (ns := ns) (n := m) (ts := us) (f := f) Hkk.out)
      clear hS hnx
      generalize itemG ns m us = B at hit Hre Hgo Hse Her
      obtain ⟨m2, e2, t2⟩ := B
      simp only at hit Hre Hgo Hse Her
      by_cases he : e2 = 0
      · subst he
        by_cases hs : (hd t2).text = [59]
        · have HA2 : Hid (A = itemsG ns k m2 t2.tail) := Lib.hid (by rw [Hk.out, Hgo.out k rfl hs])
          have Hlen : Hid (t2.tail.length ≤ k) := Lib.hid (by have h1 := tail_len Hre.out.1; have h2 := Hre.out.2.1; omega)
          go_wp2_with fail
          refine hit.mono ?_
          rintro e w2 ⟨rfl, hS⟩
          have hm := hS.must [59] (by simp)
          rw [if_pos hs, if_pos hs] at hm
          clear hS hit hs
          go_wp2_with fail
          refine hm.mono ?_
          rintro e w3 ⟨rfl, hS⟩
          have HS := Lib.hid hS
          clear hS hm
          go_wp2
          go_roundg k
          case rel => exact ⟨_, _, HS.out, Hlen.out, HA2⟩
          case measure => omega
        · have HA2 : Hid (A = (m2, 6, t2)) := Lib.hid (by rw [Hk.out, Hse.out k rfl hs])
          go_wp2_with fail
          refine hit.mono ?_
          rintro e w2 ⟨rfl, hS⟩
          have hm := hS.must [59] (by simp)
          rw [if_neg hs, if_neg hs] at hm
          clear hS hit hs
          go_wp2_with fail
          refine hm.mono ?_
          rintro e w3 ⟨rfl, hS⟩
          have HS := Lib.hid hS
          clear hS hm
          go_wp2
          go_ret
          rw [HA2.out]
          exact ⟨rfl, HS.out⟩
      · have hne : (e2 == 0) = false := by simpa using he
        have HA2 : Hid (A = (m2, e2, t2)) := Lib.hid (by rw [Hk.out, Her.out k he])
        clear he
        go_wp2_with fail
        refine hit.mono ?_
        rintro e w2 ⟨rfl, hS⟩
        have HS := Lib.hid hS
        clear hS hit
        go_wp2
        go_ret
        rw [HA2.out]
        exact ⟨rfl, HS.out⟩
end
end Go.Proofs.Ytfiielibnnodkaa
