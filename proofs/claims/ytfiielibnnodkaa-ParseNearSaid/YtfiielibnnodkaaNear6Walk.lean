/-
  The walk of the law ParseNear: a net's text of which some bytes are others, or are missing.
  Conditions: none beyond the theorems' own.
-/
import Derived.Test.YtfiielibnnodkaaTextsR
import Derived.Test.YtfiielibnnodkaaPSames2
import Derived.Test.YtfiielibnnodkaaInBx
import Derived.Test.YtfiielibnnodkaaBytesIn
import Derived.Test.YtfiielibnnodkaaNearIn
import Derived.Deep.RegionLaw
namespace Go.Proofs.Ytfiielibnnodkaa
open Go.RowKit
set_option linter.unusedVariables false

theorem makeN_ok6 {ts : List Nat} {acs : List Ac} (h : AllOk acs) : NetOk (makeN ts acs).places.length (makeN ts acs) := checkN_netOk (makeN_check h)

/-- bytes that are left alone -/
theorem BytesAt.kept {w w' : World} {S : Nat → Prop} {A : Option Addr} {n : Nat} {l : List UInt8} (h : BytesAt w A n l) (hk : Kept S w w') (hS : ∀ b off, A = some ⟨b, off, none⟩ → ¬ S b) : BytesAt w' A n l :=
  ⟨h.len, fun hn => by
    obtain ⟨b, off, e, hb, hc⟩ := h.cells hn
    exact ⟨b, off, e, Nat.lt_of_lt_of_le hb hk.size, fun i x hx => hk.cell hb (hS b off e) (hc i x hx)⟩⟩
theorem BytesAt.none_len {w : World} {n : Nat} {l : List UInt8} (h : BytesAt w none n l) : n = 0 := by
  rcases Nat.eq_zero_or_pos n with h0 | h0
  · exact h0
  · obtain ⟨b, off, e, _⟩ := h.cells h0; cases e

set_option maxRecDepth 100000 in
set_option maxHeartbeats 4000000 in
theorem near6_small (hR : RParseSays) {w : World} {aT aA B0 : Option Addr} {cTok cA m cm : Nat} {ts : List Nat} {acs : List Ac} {lw : List UInt8} (h : DraftAt w (.slice aT ts.length cTok) (.slice aA acs.length cA) ts acs) (a : Nat) (ha : a ≤ 65535) (hw : BytesAt w B0 m lw) (hcm : m ≤ cm) (lz : Nat) (hlz : lz ≤ 255) (h60 : ts.length ≤ 60) (h12 : acs.length ≤ 12) (h10 : m ≤ 10) :
    Calls Try.prog 6 #[.agg #[.slice aT ts.length cTok, .slice aA acs.length cA], .int .u16 (a : Int), .slice B0 m cm, .int .u8 (lz : Int)] w fun e w' => e = .returned (.bool true) ∧ Below w.heap.size w w' := by
  have Hmake : Hid (∀ W : World, Below w.heap.size w W → Calls Try.prog 10 #[.agg #[.slice aT ts.length cTok, .slice aA acs.length cA]] W fun e w' => ∃ vp vt, e = .returned (.agg #[vp, vt]) ∧ NetOwn W.heap.size w' vp vt (makeN ts acs) ∧ Below W.heap.size W w') := Lib.hid (fun W hW => make_any (h.below hW))
  have Hok := Lib.hid (makeN_ok6 (ts := ts) h.ok)
  have HR := Lib.hid hR
  have Hw := Lib.hid hw
  obtain ⟨N, hN⟩ : ∃ N, N = makeN ts acs := ⟨_, rfl⟩
  rw [← hN] at Hmake Hok
  obtain ⟨nT, hnT⟩ : ∃ k, k = ts.length := ⟨_, rfl⟩
  obtain ⟨nA, hnA⟩ : ∃ k, k = acs.length := ⟨_, rfl⟩
  rw [← hnT, ← hnA] at Hmake ⊢
  have h60i : ¬ (60 : Int) < (nT : Int) := by omega
  have h60b : decide ((60 : Int) < (nT : Int)) = false := decide_eq_false h60i
  have h60c : decide (60 < nT) = false := decide_eq_false (by omega)
  have h12i : ¬ (12 : Int) < (nA : Int) := by omega
  have h12b : decide ((12 : Int) < (nA : Int)) = false := decide_eq_false h12i
  have h12c : decide (12 < nA) = false := decide_eq_false (by omega)
  have h10i : ¬ (10 : Int) < (m : Int) := by omega
  have h10b : decide ((10 : Int) < (m : Int)) = false := decide_eq_false h10i
  have h10c : decide (10 < m) = false := decide_eq_false (by omega)
  clear h hnT hnA h60 h12 hN hR hw
  go_enter Try.func6, Try.ntmps6
  go_wp2_with fail
  refine (awake6 _).mono ?_
  rintro e w1 ⟨rfl, hb⟩
  have hi := (InBx.start 25 w (.slice aT nT cTok) (.slice aA nA cA)).go hb
  have b0 := hi.c0
  have b1 := hi.c1
  have Hi := Lib.hid hi
  clear hb hi
  go_wp2_with fail
  refine (Hmake.out _ Hi.out.old).mono ?_
  rintro e w2 ⟨vp, vt, rfl, hno, hb2⟩
  have hna := hno.at_
  obtain ⟨a1, np, c1, a2, nt, c2, rfl, rfl, hnp, hnt⟩ := hna.form2
  have Hi2 := Lib.hid (Hi.out.go hb2)
  have htx := rtext_any hnp hnt hna Hok.out
  obtain ⟨S, hS⟩ : ∃ S, S = bs (textN N) := ⟨_, rfl⟩
  rw [← hS] at htx
  have hSs : S.size ≤ 30000 := by rw [hS, bs_size]; exact Hok.out.fits.text_len
  clear hno hb2 b0 b1 hna hS hnp hnt Hmake h60b h60c h12b h12c h10b h10c
  go_wp2_with fail
  refine htx.mono ?_
  rintro e w3 ⟨rfl, hb3⟩
  have Hi3 := Lib.hid (Hi2.out.go hb3)
  obtain ⟨bb, cc, w4, hrb, hcc, hB, b4⟩ := run_bytes_of w3 S
  have HB4 : Hid (Below w.heap.size w w4) := Lib.hid (Hi3.out.go b4).old
  obtain ⟨n, hn⟩ : ∃ n, n = S.size := ⟨_, rfl⟩
  rw [← hn] at hrb hcc hB hSs
  obtain ⟨l, hl⟩ : ∃ l, l = S.data.toList := ⟨_, rfl⟩
  rw [← hl] at hB
  have HBl := Lib.hid hB
  obtain ⟨n1, hn1⟩ : ∃ n1, n1 = n + 1 := ⟨_, rfl⟩
  have hn1i : (n : Int) + 1 = (n1 : Int) := by omega
  have hn10 : ¬ n1 = 0 := by omega
  obtain ⟨k, hk⟩ : ∃ k, k = a % n1 := ⟨_, rfl⟩
  have hki : (a : Int) % (n1 : Int) = (k : Int) := by rw [hk]; exact (Int.natCast_emod a n1).symm
  have hkn : k ≤ n := by have := Nat.mod_lt a (show 0 < n1 by omega); omega
  obtain ⟨z9, hz9⟩ : ∃ z, z = lz % 9 := ⟨_, rfl⟩
  have hz9i : (lz : Int) % 9 = (z9 : Int) := by omega
  obtain ⟨en, hen⟩ : ∃ en, en = min (k + z9) n := ⟨_, rfl⟩
  have henn : en ≤ n := by omega
  have hz99 : z9 ≤ 8 := by omega
  have Hn1 := Lib.hid hn1
  have Hen := Lib.hid hen
  clear hb3 htx hB b4 hn hl hn1 hk hz9 hen
  go_upto_region 6 with (fail)
  have hmin : min ((k : Int) + (z9 : Int)) (n : Int) = (en : Int) := by rw [Hen.out]; omega
  rw [hki, hmin]
  have hd4 : Below w4.heap.size w4 w4.drew := (Below.refl _ _).drew
  have hp4 := HBl.out.below hd4
  have hw4 := (Hw.out.below HB4.out).below hd4
  have hbb : ∀ b off, B0 = some ⟨b, off, none⟩ → 0 < m → b < w4.heap.size := fun b off e hm => by
    obtain ⟨b', off', e', hb', _⟩ := (Hw.out.below HB4.out).cells hm
    rw [e] at e'
    injection e' with e'
    injection e' with e1 e2 _
    omega
  obtain ⟨v1, w5, hr1, ho1, hk1⟩ := run_push_bytes (B := w4.heap.size) (v := .slice none 0 0) (l := []) 22 22 (World.ownsRow_nil w4.drew _ _ _) (.slice (some ⟨bb, 0, none⟩) k cc) (l.take k) ((hp4.take k hkn).src cc (fun e => by cases e)) (by have := hp4.len; simp; omega) (Nat.le_refl _)
  obtain ⟨x1, y1, z1, rfl⟩ := own_form3 ho1
  have hown1 : ∀ j, (Value.slice x1 y1 z1).ownBlock = some j → w4.heap.size ≤ j := fun j hj => (World.ownsRow.lt ho1 j hj).1
  have hw5 : BytesAt w5 B0 m lw := hw4.kept hk1 (fun b off e hS => by cases hS)
  have hp5 : BytesAt w5 (some ⟨bb, 0, none⟩) n l := hp4.kept hk1 (fun b off e hS => by cases hS)
  obtain ⟨v2, w6, hr2, ho2, hk2⟩ := run_push_bytes (B := w4.heap.size) 22 22 ho1 (.slice B0 m cm) lw (hw5.src cm (fun e => by subst e; exact hw5.none_len)) (by have := hp4.len; have := hw5.len; simp; omega) hk1.size
  obtain ⟨x2, y2, z2, rfl⟩ := own_form3 ho2
  have hp6 : 0 < n → BytesAt w6 (some ⟨bb, 0, none⟩) n l := fun hn0 => hp5.kept hk2 (fun b off e hS => by
    have h1 := hown1 b hS
    obtain ⟨b', off', e', hb', _⟩ := HBl.out.cells hn0
    injection e with e
    injection e with e1 _ _
    injection e' with e'
    injection e' with e2 _ _
    omega)
  obtain ⟨ax, hax⟩ : ∃ ax, (if cc = en then some (⟨bb, 0, none⟩ : Addr) else some ⟨bb, en, none⟩) = ax := ⟨_, rfl⟩
  have hsx : Src Try.prog 1 22 (.slice ax (n - en) (cc - en)) (l.drop en).length (byteVals (l.drop en)) w6 := by
    by_cases h0 : n - en = 0
    · have hl0 : l.drop en = [] := List.eq_nil_of_length_eq_zero (by rw [List.length_drop, HBl.out.len]; exact h0)
      have hb0 : BytesAt w6 ax (n - en) (l.drop en) := ⟨by rw [hl0, h0]; rfl, fun hn => by omega⟩
      exact hb0.src _ (fun _ => h0)
    · have hne : ¬ cc = en := by omega
      rw [if_neg hne] at hax
      subst hax
      have := (hp6 (by omega)).drop en henn
      rw [Nat.zero_add] at this
      exact this.src _ (fun e => by cases e)
  obtain ⟨v3, w7, hr3, ho3, hk3⟩ := run_push_bytes (B := w4.heap.size) 22 22 ho2 (.slice ax (n - en) (cc - en)) (l.drop en) hsx (by have := hp4.len; have := hw5.len; simp; omega) (Nat.le_trans hk1.size hk2.size)
  obtain ⟨x3, y3, z3, rfl⟩ := own_form3 ho3
  obtain ⟨q1, q2, q3⟩ := OwnB.bytes ho3
  have hsm := same6_any HR.out q3 q2 (by rw [q1]; have := hp4.len; have := hw5.len; simp; omega)
  have hown2 : ∀ j, (Value.slice x2 y2 z2).ownBlock = some j → w4.heap.size ≤ j := fun j hj => (World.ownsRow.lt ho2 j hj).1
  have hb7 : Below w4.heap.size w4 w7 := by
    have e1 := hk1.below (B := w4.heap.size) (fun k hk => by cases hk) (Nat.le_refl _)
    have e2 := hk2.below (B := w4.heap.size) hown1 hk1.size
    have e3 := hk3.below (B := w4.heap.size) hown2 (Nat.le_trans hk1.size hk2.size)
    exact (hd4.trans e1).trans (e2.trans e3)
  have HB7 := Lib.hid (HB4.out.trans (hb7.mono HB4.out.size))
  have hkc : k ≤ cc := by omega
  have hec : en ≤ cc := by omega
  clear ho1 ho2 ho3 hk1 hk2 hk3 hw4 hw5 hp4 hp5 hp6 hsx q1 q2 q3 hown1 hown2 hb7 hd4 hbb hmin hki hn1i hz9i
  go_region_law (first | (refine step_append_eq (by rfl) (.const (.slice none 0 0)) (.tmp 52) 22 (by rfl) (by rfl) (by rfl) hr1 ?_) | (refine step_append_eq (by rfl) (.tmp 53) (.tmp 54) 22 (by rfl) (by rfl) (by rfl) hr2 ?_) | (refine step_append_eq (by rfl) (.tmp 55) (.tmp 58) 22 (by rfl) (by rfl) (by rfl) hr3 ?_) | (go_simp; go_at_call 15; refine hsm.mono ?_; rintro e w8 ⟨rfl, hb8⟩))
  all_goals
    have HB8 := Lib.hid (HB7.out.trans (hb8.mono HB7.out.size))
    clear hsm hb8 hr1 hr2 hr3
    go_wp2
    go_ret
    exact ⟨rfl, HB8.out⟩

set_option maxRecDepth 100000 in
set_option maxHeartbeats 4000000 in
theorem near6_big {w : World} {aT aA B0 : Option Addr} {cTok cA nT nA m cm : Nat} (A Z : Int) (hT : nT ≤ 9223372036854775807) (hA : nA ≤ 9223372036854775807) (hm : m ≤ 9223372036854775807) (h : 60 < nT ∨ (nT ≤ 60 ∧ 12 < nA) ∨ (nT ≤ 60 ∧ nA ≤ 12 ∧ 10 < m)) :
    Calls Try.prog 6 #[.agg #[.slice aT nT cTok, .slice aA nA cA], .int .u16 A, .slice B0 m cm, .int .u8 Z] w fun e w' => e = .returned (.bool true) ∧ Below w.heap.size w w' := by
  rcases h with h1 | ⟨h1, h2⟩ | ⟨h1, h2, h3⟩
  · have h1i : (60 : Int) < (nT : Int) := by omega
    go_enter Try.func6, Try.ntmps6
    go_wp2_with fail
    refine (awake6 _).mono ?_
    rintro e w1 ⟨rfl, hb⟩
    have hi := (InBx.start 25 w (.slice aT nT cTok) (.slice aA nA cA)).go hb
    have b0 := hi.c0
    have b1 := hi.c1
    have Hi := Lib.hid hi
    clear hb hi
    go_wp2_with fail
    refine (awake6 _).mono ?_
    rintro e w2 ⟨rfl, hb⟩
    have Hi2 := Lib.hid (Hi.out.go hb)
    clear hb
    go_wp2
    go_ret
    exact ⟨rfl, Hi2.out.old⟩
  · have h1i : ¬ (60 : Int) < (nT : Int) := by omega
    have h1b : decide ((60 : Int) < (nT : Int)) = false := decide_eq_false h1i
    have h1c : decide (60 < nT) = false := decide_eq_false (by omega)
    have h2i : (12 : Int) < (nA : Int) := by omega
    go_enter Try.func6, Try.ntmps6
    go_wp2_with fail
    refine (awake6 _).mono ?_
    rintro e w1 ⟨rfl, hb⟩
    have hi := (InBx.start 25 w (.slice aT nT cTok) (.slice aA nA cA)).go hb
    have b0 := hi.c0
    have b1 := hi.c1
    have Hi := Lib.hid hi
    clear hb hi
    go_wp2_with fail
    refine (awake6 _).mono ?_
    rintro e w2 ⟨rfl, hb⟩
    have Hi2 := Lib.hid (Hi.out.go hb)
    clear hb
    go_wp2
    go_ret
    exact ⟨rfl, Hi2.out.old⟩
  · have h1i : ¬ (60 : Int) < (nT : Int) := by omega
    have h1b : decide ((60 : Int) < (nT : Int)) = false := decide_eq_false h1i
    have h1c : decide (60 < nT) = false := decide_eq_false (by omega)
    have h2i : ¬ (12 : Int) < (nA : Int) := by omega
    have h2b : decide ((12 : Int) < (nA : Int)) = false := decide_eq_false h2i
    have h2c : decide (12 < nA) = false := decide_eq_false (by omega)
    have h3i : (10 : Int) < (m : Int) := by omega
    go_enter Try.func6, Try.ntmps6
    go_wp2_with fail
    refine (awake6 _).mono ?_
    rintro e w1 ⟨rfl, hb⟩
    have hi := (InBx.start 25 w (.slice aT nT cTok) (.slice aA nA cA)).go hb
    have b0 := hi.c0
    have b1 := hi.c1
    have Hi := Lib.hid hi
    clear hb hi
    go_wp2_with fail
    refine (awake6 _).mono ?_
    rintro e w2 ⟨rfl, hb⟩
    have Hi2 := Lib.hid (Hi.out.go hb)
    clear hb
    go_wp2
    go_ret
    exact ⟨rfl, Hi2.out.old⟩

theorem near6_law (hR : RParseSays) {w : World} {aT aA B0 : Option Addr} {cTok cA m : Nat} {ts : List Nat} {acs : List Ac} {lw : List UInt8} (h : DraftAt w (.slice aT ts.length cTok) (.slice aA acs.length cA) ts acs) (A : Int) (hA : 0 ≤ A ∧ A ≤ 65535) (hw : BytesAt w B0 m lw) (cm : Nat) (hcm : m ≤ cm) (hm : m ≤ 9223372036854775807) (Z : Int) (hZ : 0 ≤ Z ∧ Z ≤ 255) :
    Calls Try.prog 6 #[.agg #[.slice aT ts.length cTok, .slice aA acs.length cA], .int .u16 A, .slice B0 m cm, .int .u8 Z] w fun e w' => e = .returned (.bool true) ∧ Below w.heap.size w w' := by
  by_cases h60 : ts.length ≤ 60
  · by_cases h12 : acs.length ≤ 12
    · by_cases h10 : m ≤ 10
      · obtain ⟨a, rfl⟩ : ∃ a : Nat, A = (a : Int) := ⟨A.toNat, by omega⟩
        obtain ⟨z, rfl⟩ : ∃ a : Nat, Z = (a : Int) := ⟨Z.toNat, by omega⟩
        exact near6_small hR h a (by omega) hw hcm z (by omega) h60 h12 h10
      · exact near6_big A Z (RowAt.max h.toks) (RowAt.max h.acts) hm (.inr (.inr ⟨h60, h12, by omega⟩))
    · exact near6_big A Z (RowAt.max h.toks) (RowAt.max h.acts) hm (.inr (.inl ⟨h60, by omega⟩))
  · exact near6_big A Z (RowAt.max h.toks) (RowAt.max h.acts) hm (.inl (by omega))
end Go.Proofs.Ytfiielibnnodkaa
