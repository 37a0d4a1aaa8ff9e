/-
  What the document's own Name comes to.
  Conditions: none beyond each theorem's own.
-/
import Derived.Test.YtpfdmmidomofdaaRTokensB
import Derived.Test.YtpfdmmidomofdaaNamesB
namespace Go.Proofs.Ytpfdmmidomofdaa
open Go.RowKit
set_option linter.unusedVariables false

theorem name_lex {d : List UInt8} (h : nameB d = true) : (∃ t u, lexL 0 d = .ok [t, u] ∧ t.kind = 1 ∧ t.text = d) ∧ d.length ≤ 12 := by
  unfold nameB at h
  simp at h
  exact ⟨(word_iff d).1 ((wordB_iff d).1 h.1), h.2⟩

theorem name_of {d : List UInt8} {t u : Tok} (h : lexL 0 d = .ok [t, u]) (hk : t.kind = 1) (ht : t.text = d) : nameB d = decide (d.length ≤ 12) := by
  unfold nameB
  rw [(wordB_iff d).2 ((word_iff d).2 ⟨t, u, h, hk, ht⟩)]
  rfl

theorem bool_no {b : Bool} (h : b = true → False) : b = false := by cases b with | false => rfl | true => exact (h rfl).elim

set_option maxRecDepth 100000 in
set_option maxHeartbeats 2000000 in
theorem rname_any (s : ByteArray) (w : World) (hs : s.size ≤ 2000000) :
    Calls Try.prog 39 #[.string s] w fun e w' => e = .returned (.bool (nameB s.data.toList)) ∧ Below w.heap.size w w' := by
  obtain ⟨b, c, w1, hcv, hcc, hB, hb1⟩ := run_bytes_of w s
  have hr := rtokens_any hB c hcc hs
  obtain ⟨d, hd⟩ : ∃ d, d = s.data.toList := ⟨_, rfl⟩
  rw [← hd]
  have Hlen : Hid (d.length = s.size) := Lib.hid (by rw [hd]; exact Array.length_toList)
  have Htl : Hid (s.toList = d) := Lib.hid (by rw [Lib.toList_data, hd])
  obtain ⟨q, hq⟩ : ∃ q, q = nameB d := ⟨_, rfl⟩
  rw [← hq]
  have Hq := Lib.hid hq
  rw [← hd] at hr
  have Hb1 := Lib.hid hb1
  clear hd hq hB hb1
  go_enter Try.func39, Try.ntmps39
  go_wp2_with fail
  refine hr.mono ?_
  rintro e w2 ⟨v, x, y, rfl, hout, hb2⟩
  have Hb2 := Lib.hid (Hb1.out.trans (hb2.mono Hb1.out.size))
  clear hb2 hr hcv
  rcases hout with ⟨ts, h1, h2, rfl, rfl⟩ | ⟨er, k, h1, her, hk, rfl, rfl, rfl⟩
  · obtain ⟨av, cv, hv⟩ := own_form h2
    have Hts := Lib.hid h1
    by_cases htn : ts.length = 2
    · obtain ⟨t, u, rfl⟩ : ∃ t u, ts = [t, u] := by
        match ts, htn with
        | [t, u], _ => exact ⟨t, u, rfl⟩
      obtain ⟨r, cap, hv2, hr2, hcell⟩ := own_rtok h2
      have hv2 := hv2 (by simp)
      subst hv2
      obtain ⟨hr3, hr4⟩ := hr2 (by simp)
      have e0 := (hcell 0 _ rfl).1
      have e1 := (hcell 0 _ rfl).2.1
      simp only [Nat.zero_mul, Nat.zero_add] at e0 e1
      obtain ⟨sv, hsv⟩ : ∃ sv, sv = bs t.text := ⟨_, rfl⟩
      rw [← hsv] at e1
      have Hsv : Hid (sv.toList = t.text) := Lib.hid (by rw [hsv, bs_toList])
      clear hv h1 h2 hcell hr2 hsv htn
      by_cases hk1 : t.kind = 1
      · have hk1b : ((t.kind : Int) == 1) = true := by rw [hk1]; rfl
        have Hk1 := Lib.hid hk1
        by_cases htx : t.text = d
        · have htb : (sv.toList == s.toList) = true := by rw [Hsv.out, Htl.out, htx]; simp
          have Hfin : Hid (q = decide (d.length ≤ 12)) := Lib.hid (by rw [Hq.out]; exact name_of Hts.out Hk1.out htx)
          clear htx hk1
          by_cases h12 : s.size ≤ 12
          · have h12i : (s.size : Int) ≤ 12 := by omega
            have Hqq : Hid (q = true) := Lib.hid (by rw [Hfin.out]; exact decide_eq_true (by rw [Hlen.out]; exact h12))
            go_wp2
            go_ret
            exact ⟨ret_bool (a := true) Hqq.out.symm, Hb2.out⟩
          · have h12i : ¬ (s.size : Int) ≤ 12 := by omega
            have h12b : decide ((s.size : Int) ≤ 12) = false := by simpa using h12i
            have h12c : decide (s.size ≤ 12) = false := by simpa using h12
            have Hqq : Hid (q = false) := Lib.hid (by rw [Hfin.out]; exact decide_eq_false (by rw [Hlen.out]; exact h12))
            go_wp2
            go_ret
            exact ⟨ret_bool (a := false) Hqq.out.symm, Hb2.out⟩
        · have htb : (sv.toList == s.toList) = false := by rw [Hsv.out, Htl.out]; simpa using htx
          have Hqq : Hid (q = false) := Lib.hid (by
            rw [Hq.out]
            refine bool_no fun e => ?_
            obtain ⟨⟨t', u', e1, e2, e3⟩, _⟩ := name_lex e
            rw [Hts.out] at e1
            injection e1 with e1
            injection e1 with e1 _
            subst e1
            exact htx e3)
          clear htx hk1
          go_wp2
          go_ret
          exact ⟨ret_bool (a := false) Hqq.out.symm, Hb2.out⟩
      · have hk1b : ((t.kind : Int) == 1) = false := by simp; omega
        have Hqq : Hid (q = false) := Lib.hid (by
          rw [Hq.out]
          refine bool_no fun e => ?_
          obtain ⟨⟨t', u', e1, e2, e3⟩, _⟩ := name_lex e
          rw [Hts.out] at e1
          injection e1 with e1
          injection e1 with e1 _
          subst e1
          exact hk1 e2)
        go_wp2
        go_ret
        exact ⟨ret_bool (a := false) Hqq.out.symm, Hb2.out⟩
    · subst hv
      obtain ⟨tn, htn2⟩ : ∃ tn, tn = ts.length := ⟨_, rfl⟩
      rw [← htn2] at htn ⊢
      have hnb : ((tn : Int) == 2) = false := by simp; omega
      have Hqq : Hid (q = false) := Lib.hid (by
        rw [Hq.out]
        refine bool_no fun e => ?_
        obtain ⟨⟨t', u', e1, e2, e3⟩, _⟩ := name_lex e
        rw [Hts.out] at e1
        injection e1 with e1
        subst e1
        exact htn (by rw [htn2]; rfl))
      clear h1 h2 htn2
      go_wp2
      go_ret
      exact ⟨ret_bool (a := false) Hqq.out.symm, Hb2.out⟩
  · have hnb : ((er : Int) == 0) = false := by rcases her with e | e <;> rw [e] <;> rfl
    have Hqq : Hid (q = false) := Lib.hid (by
      rw [Hq.out]
      refine bool_no fun e => ?_
      obtain ⟨⟨t', u', e1, e2, e3⟩, _⟩ := name_lex e
      rw [h1] at e1
      cases e1)
    clear h1 her hk
    go_wp2
    go_ret
    exact ⟨ret_bool (a := false) Hqq.out.symm, Hb2.out⟩

end Go.Proofs.Ytpfdmmidomofdaa
