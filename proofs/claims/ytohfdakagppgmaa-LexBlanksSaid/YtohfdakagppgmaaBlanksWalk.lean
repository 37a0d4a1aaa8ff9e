/-
  The walk of the law LexBlanks: what is dressed with blanks and comments has the same tokens.
  Conditions: none beyond the theorem's own.
-/
import Derived.Test.YtohfdakagppgmaaBlanksMath
namespace Go.Proofs.Ytohfdakagppgmaa
open Go.RowKit
set_option linter.unusedVariables false

section
variable {w : World} {A A2 : Option Addr} {n n2 : Nat} {l l2 : List UInt8}

set_option maxRecDepth 100000 in
set_option maxHeartbeats 4000000 in
theorem blanks_law (h : BytesAt w A n l) (c : Nat) (hc : n ≤ c) (hmax : n ≤ 9223372036854775807) (h2 : BytesAt w A2 n2 l2) (c2 : Nat) (hc2 : n2 ≤ c2) (hmax2 : n2 ≤ 9223372036854775807) :
    Calls Try.prog 7 #[.slice A n c, .slice A2 n2 c2] w fun e w' => e = .returned (.bool true) ∧ Below w.heap.size w w' := by
  have H := Lib.hid h
  have H2 := Lib.hid h2
  clear h h2
  by_cases hbig : 30 < n
  · have hbi : (30 : Int) < (n : Int) := by omega
    go_enter Try.func7, Try.ntmps7
    go_wp2_with fail
    refine (awake_any _).mono ?_
    rintro e w1 ⟨rfl, hb1⟩
    have Hb1 := Lib.hid hb1
    clear hb1
    go_wp2_with fail
    refine (awake_any _).mono ?_
    rintro e w2 ⟨rfl, hb2⟩
    have Hb2 := Lib.hid (Hb1.out.trans (hb2.mono Hb1.out.size))
    clear hb2
    go_wp2
    go_ret
    exact ⟨rfl, Hb2.out⟩
  have hbi : ¬ (30 : Int) < (n : Int) := by omega
  have hbd : decide ((30 : Int) < (n : Int)) = false := by simpa using hbi
  have hbd2 : decide (30 < n) = false := by simpa using hbig
  by_cases hbig2 : 60 < n2
  · have hbi2 : (60 : Int) < (n2 : Int) := by omega
    go_enter Try.func7, Try.ntmps7
    go_wp2_with fail
    refine (awake_any _).mono ?_
    rintro e w1 ⟨rfl, hb1⟩
    have Hb1 := Lib.hid hb1
    clear hb1
    go_wp2_with fail
    refine (awake_any _).mono ?_
    rintro e w2 ⟨rfl, hb2⟩
    have Hb2 := Lib.hid (Hb1.out.trans (hb2.mono Hb1.out.size))
    clear hb2
    go_wp2
    go_ret
    exact ⟨rfl, Hb2.out⟩
  have hbi2 : ¬ (60 : Int) < (n2 : Int) := by omega
  have hbd3 : decide ((60 : Int) < (n2 : Int)) = false := by simpa using hbi2
  have hbd4 : decide (60 < n2) = false := by simpa using hbig2
  go_enter Try.func7, Try.ntmps7
  go_wp2_with fail
  refine (awake_any _).mono ?_
  rintro e w1 ⟨rfl, hb1⟩
  have Hb1 := Lib.hid hb1
  clear hb1
  go_wp2
  go_loopw [6, 7, 8] (fun sa sb t wr => ∃ i : Nat, ∃ items xa xb, i ≤ n ∧ t = .int .i64 i ∧ sa = .string xa ∧ sb = .string xb ∧ InB l i items xa xb ∧ Below w.heap.size w wr ∧ w1.heap.size < wr.heap.size ∧ wr.heap[w1.heap.size]? = some (.cells wordCells 9)) (fun _ _ t _ => n - (intOf t).toNat)
  case atStart => exact ⟨0, [], _, _, by omega, rfl, rfl, rfl, InB.start l, Hb1.out.alloc Hb1.out.size _, by simp, heap_alloc_new w1 _⟩
  case round =>
    obtain ⟨i, items, xa, xb, hi, rfl, rfl, rfl, hI, hB, hg, hW⟩ := hrel
    have HI := Lib.hid hI
    have HB := Lib.hid hB
    have HW := Lib.hid hW
    have hza := hI.za
    have hzb := hI.zb
    clear hI hB hW
    by_cases hlt : i < n
    · obtain ⟨b, off, x, hA, hb, hx, hd, hce⟩ := (H.out.below HB.out).at_ hlt
      subst hA
      have hlti : (i : Int) < (n : Int) := by omega
      obtain ⟨z, hz⟩ : ∃ z, z = x.toNat := ⟨_, rfl⟩
      have hz255 : z ≤ 255 := by have := x.toNat_lt; omega
      have hzz : zi x = (z : Int) := by rw [hz]; rfl
      rw [hzz] at hce
      obtain ⟨q, hq⟩ : ∃ q, q = z % 12 := ⟨_, rfl⟩
      have hq12 : q < 12 := by omega
      have hqi : (z : Int) % 12 = (q : Int) := by omega
      obtain ⟨t, ht⟩ : ∃ t, words12[q]? = some t := ⟨_, List.getElem?_eq_getElem (show q < words12.length from hq12)⟩
      have htm := word_size (List.mem_of_getElem? ht)
      obtain ⟨sw, hsw⟩ : ∃ sw, sw = bs t.2.1 := ⟨_, rfl⟩
      have hcw : wr.cell? ⟨w1.heap.size, q, none⟩ = some (.string sw) := by
        rw [cell_of_row _ _ q _ _ (0, 0) HW.out, wordCells_at q t ht, hsw]
      have hsz : sw.size ≤ 5 := by rw [hsw, bs_size]; exact htm
      obtain ⟨s1, hs1⟩ : ∃ s1, sw ++ { data := #[32] } = s1 := ⟨_, rfl⟩
      obtain ⟨xa', hxa⟩ : ∃ xa', xa ++ s1 = xa' := ⟨_, rfl⟩
      obtain ⟨xb1, hxb1⟩ : ∃ xb1, xb ++ sw = xb1 := ⟨_, rfl⟩
      have hs1z : s1.size ≤ 6 := by rw [← hs1, ByteArray.size_append]; have : ({ data := #[32] } : ByteArray).size = 1 := rfl; omega
      have hxbz : xb1.size ≤ 500 := by rw [← hxb1, ByteArray.size_append]; omega
      have Ht : Hid (words12[x.toNat % 12]? = some t) := Lib.hid (by rw [← hz, ← hq]; exact ht)
      have Hsw := Lib.hid hsw
      have Hx := Lib.hid hx
      clear hx hd hz hzz hq ht htm hsw
      by_cases hlt2 : i < n2
      · have hlti2 : (i : Int) < (n2 : Int) := by omega
        obtain ⟨b2, off2, y, hA, hb2, hy, hd2, hce2⟩ := ((H2.out.below HB.out).below ((Below.refl _ wr).alloc (Nat.le_refl _) (.cells dressCells 9))).at_ hlt2
        subst hA
        obtain ⟨z2, hz2⟩ : ∃ z2, z2 = y.toNat := ⟨_, rfl⟩
        have hz2255 : z2 ≤ 255 := by have := y.toNat_lt; omega
        have hzz2 : zi y = (z2 : Int) := by rw [hz2]; rfl
        rw [hzz2] at hce2
        obtain ⟨q2, hq2⟩ : ∃ q2, q2 = z2 % 5 := ⟨_, rfl⟩
        have hq25 : q2 < 5 := by omega
        have hqi2 : (z2 : Int) % 5 = (q2 : Int) := by omega
        obtain ⟨d, hd⟩ : ∃ d, dresses[q2]? = some d := ⟨_, List.getElem?_eq_getElem (show q2 < dresses.length from hq25)⟩
        have hdm : d ∈ dresses := List.mem_of_getElem? hd
        obtain ⟨sd, hsd⟩ : ∃ sd, sd = bs d := ⟨_, rfl⟩
        have hcd : (wr.alloc (.cells dressCells 9)).cell? ⟨wr.heap.size, q2, none⟩ = some (.string sd) := by
          rw [cell_marked, dressCells_at q2 d hd, hsd]
        obtain ⟨xb2, hxb2⟩ : ∃ xb2, xb1 ++ sd = xb2 := ⟨_, rfl⟩
        have HN := Lib.hid (HI.out.next (s1 := s1) (sa' := xa') (sb1 := xb1) (sb' := xb2) Hx.out Ht.out hdm (by rw [← Hsw.out]; exact hs1) hxa (by rw [← Hsw.out]; exact hxb1) (by rw [← hsd]; exact hxb2))
        have hzd : sd.size ≤ 9 := by rw [hsd, bs_size]; exact dress_size hdm
        have HWn : Hid ((wr.alloc (.cells dressCells 9)).heap[w1.heap.size]? = some (.cells wordCells 9)) := Lib.hid ((heap_alloc_old wr _ hg).trans HW.out)
        unfold dressCells at hce2 hcd HWn
        clear hy hd2 hz2 hzz2 hq2 hd hdm hsd
        go_wp2
        go_roundw
        case rel => exact ⟨i + 1, _, xa', xb2, by omega, by go_num, rfl, rfl, HN.out, HB.out.alloc HB.out.size _, by simp; omega, HWn.out⟩
        case measure => simp [intOf]; omega
      · have hlti2 : ¬ (i : Int) < (n2 : Int) := by omega
        obtain ⟨xb2, hxb2⟩ : ∃ xb2, xb1 ++ { data := #[32] } = xb2 := ⟨_, rfl⟩
        have HN := Lib.hid (HI.out.next (s1 := s1) (sa' := xa') (sb1 := xb1) (sb' := xb2) (d := [32]) Hx.out Ht.out (by decide) (by rw [← Hsw.out]; exact hs1) hxa (by rw [← Hsw.out]; exact hxb1) hxb2)
        go_wp2
        go_roundw
        case rel => exact ⟨i + 1, _, xa', xb2, by omega, by go_num, rfl, rfl, HN.out, HB.out, hg, HW.out⟩
        case measure => simp [intOf]; omega
    · obtain rfl : n = i := by omega
      have hge : ¬ (n : Int) < (n : Int) := by omega
      obtain ⟨ts, hla, hsa⟩ := HI.out.lexa
      obtain ⟨us, hlb, hsb⟩ := HI.out.lexb
      have Hla := Lib.hid hla
      have Hlb := Lib.hid hlb
      have Hsa := Lib.hid hsa
      have Hsb := Lib.hid hsb
      have htl : ts.length = n + 1 := by
        have e := congrArg List.length hsa
        rw [List.length_map, List.length_append, List.length_map, HI.out.len] at e
        exact e
      have hul : us.length = n + 1 := by
        have e := congrArg List.length hsb
        rw [List.length_map, List.length_append, List.length_map, HI.out.len] at e
        exact e
      have Htl := Lib.hid htl
      have Hul := Lib.hid hul
      obtain ⟨ba, ca, w2, hcva, hcca, hBa, hba⟩ := run_bytes_of wr xa
      have htk := tokens_any hBa ca hcca (by omega)
      have Hba := Lib.hid hba
      clear hla hlb hsa hsb htl hul hBa hba
      go_wp2_with fail
      (with_reducible refine htk.mono ?_)
      rintro e w3 ⟨v, f, rfl, hout, hb3⟩
      clear hcva htk
      rcases hout with ⟨ts', h1, h2, rfl⟩ | ⟨er, p, h1, _⟩
      · rw [Hla.out] at h1
        injection h1 with h1
        subst h1
        simp only [faultV]
        obtain ⟨av, cv, hv⟩ := own_form h2
        subst hv
        have Hrow := Lib.hid h2
        rw [Htl.out] at Hrow ⊢
        have hb3w : Below wr.heap.size wr w3 := Hba.out.trans (hb3.mono Hba.out.size)
        have Hb3 := Lib.hid (hb3w.alloc hb3w.size (.cells #[.int .i64 0, .int .i64 0, .int .i64 0, .int .i64 0] 27))
        obtain ⟨w4, hw4⟩ : ∃ w4, w4 = w3.alloc (.cells #[.int .i64 0, .int .i64 0, .int .i64 0, .int .i64 0] 27) := ⟨_, rfl⟩
        obtain ⟨bb, cb, w5, hcvb, hccb, hBb, hbb⟩ := run_bytes_of (w3.alloc (.cells #[.int .i64 0, .int .i64 0, .int .i64 0, .int .i64 0] 27)) xb
        have htk := tokens_any hBb cb hccb (by omega)
        have Hbb := Lib.hid hbb
        clear h2 hb3 hb3w hBb hbb hw4
        go_wp2_with fail
        (with_reducible refine htk.mono ?_)
        rintro e w6 ⟨v', f', rfl, hout, hb6⟩
        clear hcvb htk
        rcases hout with ⟨us', h1, h2, rfl⟩ | ⟨er, p, h1, _⟩
        · rw [Hlb.out] at h1
          injection h1 with h1
          subst h1
          simp only [faultV]
          obtain ⟨av', cv', hv⟩ := own_form h2
          subst hv
          have Hrow2 := Lib.hid h2
          rw [Hul.out] at Hrow2 ⊢
          have hb6w : Below (w3.alloc (.cells #[.int .i64 0, .int .i64 0, .int .i64 0, .int .i64 0] 27)).heap.size (w3.alloc (.cells #[.int .i64 0, .int .i64 0, .int .i64 0, .int .i64 0] 27)) w6 := Hbb.out.trans (hb6.mono Hbb.out.size)
          have hb7 := hb6w.alloc hb6w.size (.cells #[.int .i64 0, .int .i64 0, .int .i64 0, .int .i64 0] 27)
          obtain ⟨⟨c0, c1, c2', c3⟩, ⟨f0, f1, f2, f3⟩, hlt5⟩ := new4 (heap_alloc_new w3 _) hb6w
          have Hrow7 := Lib.hid (own_moves (own_moves Hrow.out ((Below.refl _ w3).alloc (Nat.le_refl _) (.cells #[.int .i64 0, .int .i64 0, .int .i64 0, .int .i64 0] 27))) hb7)
          have Hrow8 := Lib.hid (own_moves Hrow2.out ((Below.refl _ w6).alloc (Nat.le_refl _) (.cells #[.int .i64 0, .int .i64 0, .int .i64 0, .int .i64 0] 27)))
          have Hb7 := Lib.hid (Hb3.out.trans (hb7.mono Hb3.out.size))
          clear h2 hb6 hb6w hb7
          go_wp2
          generalize w6.alloc (.cells #[.int .i64 0, .int .i64 0, .int .i64 0, .int .i64 0] 27) = w7 at Hrow7 Hrow8 Hb7 ⊢
          clear Hrow Hrow2 c0 c1 c2' c3 f0 f1 f2 f3 hlt5 Hb3 Hbb Hba
          go_loopw [15] (fun t wr => ∃ i q : Nat, i ≤ n + 1 ∧ t = .int .i64 i ∧ wr = w7.drewN q) (fun t _ => n + 1 - (intOf t).toNat)
          case atStart => exact ⟨0, 0, by omega, rfl, rfl⟩
          case round =>
            rename World => v0
            obtain ⟨i, q, hi, rfl, rfl⟩ := hrel
            by_cases hlt : i < n + 1
            · obtain ⟨t, ht⟩ : ∃ t, ts[i]? = some t := ⟨_, List.getElem?_eq_getElem (by rw [Htl.out]; exact hlt)⟩
              obtain ⟨u, hu, hu1, hu2, hu3⟩ := strip_at Hsa.out Hsb.out i t ht
              obtain ⟨r, cap, hv, hr, hcell⟩ := own_tok (by rw [Htl.out]; exact Hrow7.out)
              obtain ⟨r', cap', hv', hr', hcell'⟩ := own_tok (by rw [Hul.out]; exact Hrow8.out)
              have hv := hv (by rw [Htl.out]; omega)
              have hv' := hv' (by rw [Hul.out]; omega)
              injection hv with g1 g2 g3
              injection hv' with g4 g5 g6
              subst g1; subst g3; subst g4; subst g6
              obtain ⟨a0, a1, a2, a3⟩ := hcell i t ht
              obtain ⟨b0, b1, b2, b3⟩ := hcell' i u hu
              rw [hu1] at b0
              rw [hu2] at b1
              rw [hu3] at b2
              obtain ⟨sv, hsv⟩ : ∃ sv, sv = bs t.text := ⟨_, rfl⟩
              rw [← hsv] at a1 b1
              have hii : (i : Int) < (n : Int) + 1 := by omega
              by_cases hin : i < n
              · obtain ⟨b, off, x, hA, hb, hx, hd, hce⟩ := ((H.out.below HB.out).below Hb7.out).at_ hin
                subst hA
                obtain ⟨tw, htw, htx⟩ := HI.out.text Hsa.out i x hx hin t ht
                obtain ⟨z, hz⟩ : ∃ z, z = x.toNat := ⟨_, rfl⟩
                have hz255 : z ≤ 255 := by have := x.toNat_lt; omega
                have hzz : zi x = (z : Int) := by rw [hz]; rfl
                rw [hzz] at hce
                obtain ⟨q3, hq3⟩ : ∃ q3, q3 = z % 12 := ⟨_, rfl⟩
                have hq12 : q3 < 12 := by omega
                have hqi : (z : Int) % 12 = (q3 : Int) := by omega
                have hqt : (z : Int).tmod 12 = (q3 : Int) := by rw [Int.tmod_eq_emod_of_nonneg (by omega)]; exact hqi
                have hq12i : (q3 : Int) < 12 := by omega
                rw [← hz, ← hq3] at htw
                have hcw : w7.cell? ⟨w1.heap.size, q3, none⟩ = some (.string sv) := by
                  rw [cell_of_row _ _ q3 _ _ (0, 0) ((Hb7.out.block _ hg).trans HW.out), wordCells_at q3 tw htw, hsv, htx]
                have hini : (i : Int) < (n : Int) := by omega
                clear hcell hcell' hr hr' ht hu hu1 hu2 hu3 hsv g2 g5 hx hd htw htx hz hzz hq3
                go_wp2
                go_quiet (fail)
                go_wp2
                go_roundw
                case rel => exact ⟨i + 1, q + nq, by omega, by go_num, rfl⟩
                case measure => simp [intOf]; omega
              · have hini : ¬ (i : Int) < (n : Int) := by omega
                have hinb : decide ((i : Int) < (n : Int)) = false := by simpa using hini
                have hinc : decide (i < n) = false := by simpa using hin
                clear hcell hcell' hr hr' ht hu hu1 hu2 hu3 hsv g2 g5
                go_wp2
                go_quiet (fail)
                go_wp2
                go_roundw
                case rel => exact (by (repeat apply Exists.intro); exact ⟨⟨i + 1, q + nq, by omega, by go_num, rfl⟩, rfl⟩)
                case measure => simp [intOf]; omega
            · obtain rfl : i = n + 1 := by omega
              go_wp2
              go_ret
              exact ⟨rfl, below_drews (HB.out.trans (Hb7.out.mono HB.out.size)) q⟩
        · rw [Hlb.out] at h1
          cases h1
      · rw [Hla.out] at h1
        cases h1

end

end Go.Proofs.Ytohfdakagppgmaa
