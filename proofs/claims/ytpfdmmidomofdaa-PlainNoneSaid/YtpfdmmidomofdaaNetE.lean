/-
  What net's Check comes to: the first error of any net.
  Conditions: none beyond each theorem's own.
-/
import Derived.Test.YtpfdmmidomofdaaNetD
namespace Go.Proofs.Ytpfdmmidomofdaa
open Go.RowKit
set_option linter.unusedVariables false

/-- a net's box, and what comes behind it -/
structure InBox (w wr : World) (x y : Value) : Prop where
  below : Below (w.heap.size + 1) (w.alloc (.cells #[x, y] 31)) wr

theorem InBox.start (w : World) (x y : Value) : InBox w (w.alloc (.cells #[x, y] 31)) x y := ⟨Below.refl _ _⟩
theorem InBox.old {w wr : World} {x y : Value} (h : InBox w wr x y) : Below w.heap.size w wr := ((Below.refl _ w).alloc (Nat.le_refl _) _).trans (h.below.mono (by omega))
theorem InBox.size {w wr : World} {x y : Value} (h : InBox w wr x y) : w.heap.size < wr.heap.size := by have := h.below.size; simp at this; omega
theorem InBox.go {w wr w' : World} {x y : Value} (h : InBox w wr x y) (hb : Below wr.heap.size wr w') : InBox w w' x y := ⟨h.below.trans (hb.mono (by have := h.below.size; simp at this; omega))⟩
theorem InBox.alloc {w wr : World} {x y : Value} (h : InBox w wr x y) (o : Obj) : InBox w (wr.alloc o) x y := h.go ((Below.refl _ _).alloc (Nat.le_refl _) o)
theorem InBox.c0 {w wr : World} {x y : Value} (h : InBox w wr x y) : wr.cell? ⟨w.heap.size, 0, none⟩ = some x := (h.below.cell (p := ⟨w.heap.size, 0, none⟩) (by simp)).trans (by go_simp)
theorem InBox.c1 {w wr : World} {x y : Value} (h : InBox w wr x y) : wr.cell? ⟨w.heap.size, 1, none⟩ = some y := (h.below.cell (p := ⟨w.heap.size, 1, none⟩) (by simp)).trans (by go_simp)

set_option maxRecDepth 100000 in
set_option maxHeartbeats 4000000 in
theorem check_any {w : World} {n : Nt} {ap at_ : Option Addr} {cp ct : Nat} (h : NetAt w (.slice ap n.places.length cp) (.slice at_ n.trans.length ct) n) (hs : ∀ s ∈ n.names, s.size ≤ 9223372036854775807) :
    Calls Try.prog 33 #[.agg #[.slice ap n.places.length cp, .slice at_ n.trans.length ct]] w fun e w' => e = .returned (.int .i64 (checkN n)) ∧ Below w.heap.size w w' := by
  obtain ⟨q, hq⟩ : ∃ q, q = checkN n := ⟨_, rfl⟩
  rw [← hq]
  unfold checkN at hq
  have hi0 := InBox.start w (.slice ap n.places.length cp) (.slice at_ n.trans.length ct)
  have Hlong := Lib.hid (tooLong_any (h.below hi0.old))
  cases hl : tooLongB n with
  | true =>
    rw [if_pos hl] at hq
    rw [hl] at Hlong
    obtain ⟨np, hnp⟩ : ∃ k, k = n.places.length := ⟨_, rfl⟩
    obtain ⟨nt, hnt⟩ : ∃ k, k = n.trans.length := ⟨_, rfl⟩
    rw [← hnp, ← hnt] at hi0 Hlong ⊢
    have Hi0 := Lib.hid hi0
    clear h hl hnp hnt hi0
    subst hq
    go_enter Try.func33, Try.ntmps33
    go_wp2_with (go_at_call 54; refine Hlong.out.mono ?_; rintro e w' ⟨rfl, hb⟩; have Hb := Lib.hid hb; clear hb)
    go_ret
    exact ⟨rfl, (Hi0.out.go Hb.out).old⟩
  | false =>
    rw [if_neg (by rw [hl]; simp)] at hq
    rw [hl] at Hlong
    have hlp : n.places.length ≤ 32 := by
      unfold tooLongB at hl; simp at hl; omega
    have hlt : n.trans.length ≤ 32 := by
      unfold tooLongB at hl; simp at hl; omega
    have HQ := Lib.hid hq
    have Hnet := Lib.hid h
    have Hs := Lib.hid hs
    have Hnm : Hid (∀ W : World, InBox w W (.slice ap n.places.length cp) (.slice at_ n.trans.length ct) → Calls Try.prog 56 #[.agg #[.slice ap n.places.length cp, .slice at_ n.trans.length ct]] W fun e w' => ∃ v, e = .returned v ∧ OwnS W.heap.size w' v n.names ∧ Below W.heap.size W w') :=
      Lib.hid (fun W hW => names_any (h.below hW.old) (by omega) (by omega))
    obtain ⟨hpl, lt, hts, htr⟩ := h
    have Hpl := Lib.hid hpl
    have Hts := Lib.hid hts
    have Htr := Lib.hid htr
    obtain ⟨np, hnp⟩ : ∃ k, k = n.places.length := ⟨_, rfl⟩
    obtain ⟨nt, hnt⟩ : ∃ k, k = n.trans.length := ⟨_, rfl⟩
    rw [← hnp, ← hnt] at hi0 Hlong Hnet Hnm ⊢
    rw [← hnp] at Hpl HQ hlp
    rw [← hnt] at Htr hlt
    have Hnp := Lib.hid hnp
    have Hnt := Lib.hid hnt
    have Hi0 := Lib.hid hi0
    clear hpl hts htr hnp hnt hi0 hl hs hq
    go_enter Try.func33, Try.ntmps33
    go_wp2_with fail
    refine Hlong.out.mono ?_
    rintro e w2 ⟨rfl, hb⟩
    have Hi2 := Lib.hid (Hi0.out.go hb)
    clear hb
    have b0 := Hi2.out.c0
    have b1 := Hi2.out.c1
    go_wp2_with fail
    refine (Hnm.out _ Hi2.out).mono ?_
    rintro e w3 ⟨v, rfl, hown, hb⟩
    have Hi3 := Lib.hid (Hi2.out.go hb)
    have hrow : StrsAt w3 v n.names := RowAt.of_own hown
    obtain ⟨av, cv, rfl⟩ := RowAt.len hrow
    have Hg := Lib.hid (goodNames_any hrow Hs.out)
    clear hown hrow hb b0 b1
    cases hnb : namesBad [] n.names with
    | true =>
      obtain rfl : q = 7 := by rw [HQ.out, if_pos hnb]
      rw [hnb] at Hg
      clear hnb
      go_wp2_with fail
      refine Hg.out.mono ?_
      rintro e w4 ⟨rfl, hb⟩
      have Hb := Lib.hid hb
      clear hb
      go_wp2
      go_ret
      exact ⟨rfl, (Hi3.out.go Hb.out).old⟩
    | false =>
      replace HQ : Hid (q = if placesBad n.places = true then 3 else transErr (np : Int) n.trans) := Lib.hid (by rw [HQ.out, if_neg (by rw [hnb]; simp)])
      rw [hnb] at Hg
      clear hnb
      go_wp2_with fail
      refine Hg.out.mono ?_
      rintro e w4 ⟨rfl, hb⟩
      have Hi4 := Lib.hid (Hi3.out.go hb)
      clear hb
      have b0 := Hi4.out.c0
      go_wp2
      clear b0
      go_loopw [17] (fun i wr => ∃ k : Nat, k ≤ np ∧ i = .int .i64 k ∧ InBox w wr (.slice ap np cp) (.slice at_ nt ct) ∧ Hid (placesBad n.places = anyFrom (fun p => !numB 0 p.tok) n.places k)) (fun i _ => np - (intOf i).toNat)
      case atStart => exact ⟨0, by omega, rfl, Hi4.out, Lib.hid (by rw [anyFrom_zero]; rfl)⟩
      case round =>
        rename World => v1
        obtain ⟨k, hk, rfl, hin, Hk⟩ := hrel
        by_cases hkl : k < np
        · obtain ⟨x, hx⟩ := at_lt (l := n.places) (k := k) (by rw [← Hnp.out]; exact hkl)
          have hlti : (k : Int) < (np : Int) := by omega
          obtain ⟨b, off, rfl, hbw, e0, e1⟩ := PlsAt.at_ (PlsAt.below Hpl.out hin.old) hx
          have Hin := Lib.hid hin
          have Hx := Lib.hid hx
          clear hin hx
          cases hf : numB 0 x.tok with
          | false =>
            have Hr : Hid (q = 3) := Lib.hid (by rw [HQ.out, if_pos (by rw [Hk.out]; exact anyFrom_yes Hx.out (by rw [hf]; rfl))])
            have HF := Lib.hid hf
            clear hf
            go_wp2_with (go_at_call 57; refine (bounds_any _ _ _).mono ?_; rintro e w' ⟨rfl, rfl⟩; rw [HF.out])
            go_ret
            exact ⟨by rw [Hr.out]; rfl, (Hin.out.alloc _).old⟩
          | true =>
            have Hr : Hid (placesBad n.places = anyFrom (fun p => !numB 0 p.tok) n.places (k + 1)) := Lib.hid (by rw [Hk.out]; exact anyFrom_no Hx.out (by rw [hf]; rfl))
            have HF := Lib.hid hf
            clear hf
            go_wp2_with (go_at_call 57; refine (bounds_any _ _ _).mono ?_; rintro e w' ⟨rfl, rfl⟩; rw [HF.out])
            go_roundw
            case rel => exact ⟨k + 1, by omega, by go_num, Hin.out.alloc _, Hr⟩
            case measure => simp [intOf]; omega
        · have hge : ¬ (k : Int) < (np : Int) := by omega
          have HQ2 : Hid (q = transFrom (np : Int) n.trans 0) := Lib.hid (by
            have e0 : placesBad n.places = false := by rw [Hk.out]; exact anyFrom_end _ _ _ (by rw [← Hnp.out]; omega)
            rw [HQ.out, if_neg (by rw [e0]; simp), transFrom_zero])
          have b1 := hin.c1
          have Hin := Lib.hid hin
          clear hin
          go_wp2
          clear b1
          go_loopw [29] (fun i wr => ∃ k : Nat, k ≤ nt ∧ i = .int .i64 k ∧ InBox w wr (.slice ap np cp) (.slice at_ nt ct) ∧ Hid (q = transFrom (np : Int) n.trans k)) (fun i _ => nt - (intOf i).toNat)
          case atStart => exact ⟨0, by omega, rfl, Hin.out, HQ2⟩
          case round =>
            rename World => v2
            obtain ⟨k, hk, rfl, hin, Hk⟩ := hrel
            by_cases hkl : k < nt
            · obtain ⟨t, ht⟩ := at_lt (l := n.trans) (k := k) (by rw [← Hnt.out]; exact hkl)
              have hlti : (k : Int) < (nt : Int) := by omega
              obtain ⟨b, off, a1, c1, a2, c2, a3, c3, rfl, hbw, e0, e1, e2, e3, e4, e5, g1, g2, g3⟩ := (Htr.out.below hin.old).at_ (i := k) (t := t) (by rw [Hts.out]; exact ht)
              have b0 := hin.c0
              have hbs := hin.size
              have Hst := Lib.hid (transFrom_step (P := (np : Int)) ht)
              have Hin := Lib.hid hin
              have G1 := Lib.hid g1
              have G2 := Lib.hid g2
              have G3 := Lib.hid g3
              clear ht hin g1 g2 g3
              cases hf : numB 0 t.delay with
              | false =>
                have Hr : Hid (q = 3) := Lib.hid (by rw [Hk.out, Hst.out, if_pos (by rw [hf]; rfl)])
                have HF := Lib.hid hf
                clear hf
                go_wp2_with (go_at_call 57; refine (bounds_any _ _ _).mono ?_; rintro e w' ⟨rfl, rfl⟩; rw [HF.out])
                go_ret
                exact ⟨by rw [Hr.out]; rfl, (Hin.out.alloc _).old⟩
              | true =>
                cases hg : numB 0 t.prio with
                | false =>
                  have Hr : Hid (q = 3) := Lib.hid (by rw [Hk.out, Hst.out, if_pos (by rw [hf, hg]; rfl)])
                  have HF := Lib.hid hf
                  have HG := Lib.hid hg
                  clear hf hg
                  go_wp2_with (go_at_call 57; refine (bounds_any _ _ _).mono ?_; rintro e w' ⟨rfl, rfl⟩; first | rw [HF.out] | rw [HG.out])
                  go_ret
                  exact ⟨by rw [Hr.out]; rfl, (Hin.out.alloc _).old⟩
                | true =>
                  have Hst2 : Hid (transFrom (np : Int) n.trans k = if listsErr (np : Int) t.lists = 0 then transFrom (np : Int) n.trans (k + 1) else listsErr (np : Int) t.lists) := Lib.hid (by rw [Hst.out, if_neg (by rw [hf, hg]; simp)])
                  have HF := Lib.hid hf
                  have HG := Lib.hid hg
                  clear hf hg
                  have Hca : Hid (∀ W : World, Below v2.heap.size v2 W → Calls Try.prog 58 #[.int .i64 (np : Int), .slice (some ⟨W.heap.size, 0, none⟩) 3 3] (W.alloc (.cells #[.slice a1 t.inn.length c1, .slice a2 t.nt.length c2, .slice a3 t.out.length c3] 44)) fun e w' => e = .returned (.int .i64 (listsErr (np : Int) t.lists)) ∧ Below (W.heap.size + 1) (W.alloc (.cells #[.slice a1 t.inn.length c1, .slice a2 t.nt.length c2, .slice a3 t.out.length c3] 44)) w') := Lib.hid (by
                    intro W hW
                    have hA := (Below.refl W.heap.size W).alloc (Nat.le_refl _) (.cells #[.slice a1 t.inn.length c1, .slice a2 t.nt.length c2, .slice a3 t.out.length c3] 44)
                    have hc := checkArcs_any (w := W.alloc (.cells #[.slice a1 t.inn.length c1, .slice a2 t.nt.length c2, .slice a3 t.out.length c3] 44)) (r := W.heap.size) (m := 3) (cap := 3) (ls := t.lists) (P := (np : Int)) rfl (by omega)
                      ⟨by simp, fun k l hkl => by
                        match k, hkl with
                        | 0, hkl => cases hkl; exact ⟨a1, c1, by go_simp, (G1.out.below hW).below hA⟩
                        | 1, hkl => cases hkl; exact ⟨a2, c2, by go_simp, (G2.out.below hW).below hA⟩
                        | 2, hkl => cases hkl; exact ⟨a3, c3, by go_simp, (G3.out.below hW).below hA⟩
                        | k + 3, hkl => simp [Tr.lists] at hkl⟩
                    have e : (W.alloc (.cells #[.slice a1 t.inn.length c1, .slice a2 t.nt.length c2, .slice a3 t.out.length c3] 44)).heap.size = W.heap.size + 1 := by simp
                    rw [e] at hc
                    exact hc)
                  replace Hca := Lib.hid (Hca.out _ ((Below.refl v2.heap.size v2).alloc (Nat.le_refl _) (.cells #[.string t.name, .int .i64 t.delay, .int .i64 t.prio, .slice a1 t.inn.length c1, .slice a2 t.nt.length c2, .slice a3 t.out.length c3] 46)))
                  rw [show ∀ (W : World) (o : Obj), (W.alloc o).heap.size = W.heap.size + 1 from fun W o => by simp] at Hca
                  obtain ⟨er, her⟩ : ∃ er, er = listsErr (np : Int) t.lists := ⟨_, rfl⟩
                  rw [← her] at Hca Hst2
                  clear her
                  by_cases he0 : er = 0
                  · have Hr : Hid (q = transFrom (np : Int) n.trans (k + 1)) := Lib.hid (by rw [Hk.out, Hst2.out, if_pos he0])
                    subst he0
                    go_wp2_with (first | (go_at_call 57; refine (bounds_any _ _ _).mono ?_; rintro e w' ⟨rfl, rfl⟩; first | rw [HF.out] | rw [HG.out]) | (go_at_call 58; refine Hca.out.mono ?_; rintro e w' ⟨rfl, hb'⟩; have HB := Lib.hid hb'; clear hb'))
                    go_roundw
                    case rel => exact ⟨k + 1, by omega, by go_num, ((Hin.out.alloc _).alloc _).go (HB.out.mono (by simp)), Hr⟩
                    case measure => simp [intOf]; omega
                  · have Hr : Hid (q = er) := Lib.hid (by rw [Hk.out, Hst2.out, if_neg he0])
                    have he0b : (er == 0) = false := by simpa using he0
                    have he0c : (er != 0) = true := by simpa using he0
                    go_wp2_with (first | (go_at_call 57; refine (bounds_any _ _ _).mono ?_; rintro e w' ⟨rfl, rfl⟩; first | rw [HF.out] | rw [HG.out]) | (go_at_call 58; refine Hca.out.mono ?_; rintro e w' ⟨rfl, hb'⟩; have HB := Lib.hid hb'; clear hb'))
                    go_ret
                    exact ⟨by rw [Hr.out]; rfl, (((Hin.out.alloc _).alloc _).go (HB.out.mono (by simp))).old⟩
            · have hge : ¬ (k : Int) < (nt : Int) := by omega
              have Hr : Hid (q = 0) := Lib.hid (by rw [Hk.out]; exact transFrom_end _ _ (by rw [← Hnt.out]; omega))
              have Hin := Lib.hid hin
              clear hin
              go_wp2
              go_ret
              exact ⟨by rw [Hr.out]; rfl, Hin.out.old⟩
end Go.Proofs.Ytpfdmmidomofdaa
