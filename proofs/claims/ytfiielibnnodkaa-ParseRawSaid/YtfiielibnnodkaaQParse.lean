/-
  The document's own parser, whole.
  Conditions: the text is at most 800000 bytes.
-/
import Derived.Test.YtfiielibnnodkaaQMain
import Derived.Test.YtfiielibnnodkaaRTokens
import Derived.Test.YtfiielibnnodkaaPGood
import Derived.Deep.RegionLaw
import Derived.Deep.LoopGhost
import Derived.Deep.CutRange
namespace Go.Proofs.Ytfiielibnnodkaa
open Go.RowKit
set_option linter.unusedVariables false

/-- what Parse answers -/
def RParseOut (B : Nat) (w' : World) (l : List UInt8) (v : Value) : Prop :=
  (∃ er p : Nat, lexL 0 l = .error (er, p) ∧ (er = 3 ∨ er = 6) ∧ p ≤ l.length ∧ v = .tuple #[.agg #[.slice none 0 0, .slice none 0 0], .int .i64 (er : Int), .int .i64 (p : Int)]) ∨
  (∃ T, lexL 0 l = .ok T ∧ (((endQ T).e ≠ 0 ∧ v = .tuple #[.agg #[.slice none 0 0, .slice none 0 0], .int .i64 (endQ T).e, .int .i64 (endQ T).at_]) ∨
    ((endQ T).e = 0 ∧ ∃ vp vt, NetAt w' vp vt (endQ T).n ∧ v = .tuple #[.agg #[vp, vt], .int .i64 0, .int .i64 0])))

section
variable {w : World} {A : Option Addr} {n : Nat} {l : List UInt8}

set_option maxRecDepth 100000 in
set_option maxHeartbeats 8000000 in
theorem rparse_any (h : BytesAt w A n l) (c : Nat) (hc : n ≤ c) (hn : n ≤ 800000) :
    Calls Try.prog 27 #[.slice A n c] w fun e w' => ∃ v, e = .returned v ∧ RParseOut w.heap.size w' l v ∧ Below w.heap.size w w' := by
  have hb0 : Below w.heap.size w (w.alloc (.cells #[.slice none 0 0, .slice none 0 0] 30)) := (Below.refl _ w).alloc (Nat.le_refl _) _
  have htk := rtokens_any (h.below hb0) c hc (by omega)
  have hll := h.len
  have Hb0 := Lib.hid hb0
  clear h hb0
  go_enter Try.func27, Try.ntmps27
  go_wp2_with fail
  refine htk.mono ?_
  rintro e w1 ⟨v, x, y, rfl, hout, hb1⟩
  have Hb1 := Lib.hid (Hb0.out.trans (hb1.mono (by simp)))
  have r0 : w1.cell? ⟨w.heap.size, 0, none⟩ = some (.slice none 0 0) := (below_cells hb1 _ _ (by simp)).trans (by go_simp)
  have r1 : w1.cell? ⟨w.heap.size, 1, none⟩ = some (.slice none 0 0) := (below_cells hb1 _ _ (by simp)).trans (by go_simp)
  have hs1 : w.heap.size < w1.heap.size := by have := hb1.size; simp at this; omega
  have hfz : ∀ j, w1.frozen? ⟨w.heap.size, j, none⟩ = false := fun j => by
    have := (Kept.of_below (S := fun _ => False) hb1).froz (b := w.heap.size) (o := j) (by simp) (fun e => e) (by go_simp)
    exact this
  clear htk hb1
  rcases hout with ⟨T, h1, h2, rfl, rfl⟩ | ⟨er, p, h1, her, hp, rfl, rfl, rfl⟩
  · have hok := lexL_all l.length l 0 T (Nat.le_refl _) (by omega) h1
    have htl := hok.len
    obtain ⟨at_, nt, ct, e⟩ := own_form3 h2
    subst e
    have htok : RowAt 4 w1 (.slice at_ nt ct) T.length (T.flatMap tokL) := RowAt.of_own h2
    have hnt : nt = T.length := by obtain ⟨a', c', e'⟩ := RowAt.len htok; injection e' with _ e' _
    have HL := Lib.hid h1
    have Hok := Lib.hid hok
    have Htok := Lib.hid htok
    have hQ0 : Q w1 (w1.alloc (.cells #[.slice at_ nt ct, .int .i64 0, .int .i64 0, .int .i64 0, .slice none 0 0, .slice none 0 0, .slice none 0 0, .slice none 0 0] 93)) w1.heap.size T [] [] D0 := by
      refine ⟨hok.good.len, hok.good, .slice at_ nt ct, .slice none 0 0, .slice none 0 0, .slice none 0 0, .slice none 0 0, [], htok, rfl, ?_, (Below.refl _ _).alloc (Nat.le_refl _) _⟩
      have g1 := (AllOwn.nil w1.heap.size w1).add ((Below.refl _ w1).alloc (Nat.le_refl _) _) (boxRow.new w1.heap.size w1 93 #[.slice at_ nt ct, .int .i64 0, .int .i64 0, .int .i64 0, .slice none 0 0, .slice none 0 0, .slice none 0 0, .slice none 0 0] (Nat.le_refl _)) (fun k e => by injection e with e; subst e; exact Nat.le_refl _)
      have g2 := g1.add (Below.refl _ _) (r := plRow (.slice none 0 0) []) (ownNil _ _ _ _) (fun k e => by cases e)
      have g3 := g2.add (Below.refl _ _) (r := trRow (.slice none 0 0) []) (ownNil _ _ _ _) (fun k e => by cases e)
      have g4 := g3.add (Below.refl _ _) (r := strRow (.slice none 0 0) []) (ownNil _ _ _ _) (fun k e => by cases e)
      exact g4.add (Below.refl _ _) (r := strRow (.slice none 0 0) []) (ownNil _ _ _ _) (fun k e => by cases e)
    have HQ0 := Lib.hid hQ0
    obtain ⟨NS, hNS⟩ : ∃ NS, NS = numsQ [] T := ⟨_, rfl⟩
    have HNS : Hid (NS = numsQ [] (T.drop 0)) := Lib.hid hNS
    have hNSl : Hid (numsQ [] T = NS) := Lib.hid hNS.symm
    have Hnt := Lib.hid hnt
    have htl2 : nt ≤ 800001 := by rw [hnt]; omega
    have hpos : 0 < nt := by rw [hnt]; exact hok.good.len
    have Hfz := Lib.hid hfz
    have Hr0 := Lib.hid r0
    have Hr1 := Lib.hid r1
    clear h1 h2 hok htok hQ0 hNS hnt htl hfz r0 r1
    go_wp2
    go_loopw [9] (fun i wr => ∃ k : Nat, ∃ ns, k + 1 ≤ nt ∧ i = .int .i64 k ∧ ns.length ≤ k ∧ Q w1 wr w1.heap.size T ns [] D0 ∧ Hid (NS = numsQ ns (T.drop k))) (fun i _ => nt - (intOf i).toNat)
    case atStart => exact ⟨0, [], by omega, rfl, by simp, HQ0.out, HNS⟩
    case round =>
      obtain ⟨k, ns, hk, rfl, hns, hQ, Hk⟩ := hrel
      obtain ⟨k1, hk1e⟩ : ∃ k1, k1 = k + 1 := ⟨_, rfl⟩
      have hkw : (k : Int) + 1 = (k1 : Int) := by omega
      have hww : IntKind.i64.wrap ((k : Int) + 1) = (k1 : Int) := by rw [hkw]; simp [IntKind.wrap, IntKind.bits, IntKind.signed]; omega
      by_cases hlt : k1 < nt
      · have hlti : (k1 : Int) < (nt : Int) := by omega
        have hkti : (k : Int) < (nt : Int) := by omega
        obtain ⟨t, ht⟩ := at_lt (l := T) (k := k) (by rw [← Hnt.out]; omega)
        obtain ⟨u, hu⟩ := at_lt (l := T) (k := k + 1) (by rw [← Hnt.out]; omega)
        have hQb := hQ.below
        obtain ⟨b, off, e0, hbw, e1, e2⟩ := tok_cells Htok.out hQb ht
        obtain ⟨b', off', e0', hbw', u1, u2⟩ := tok_cells Htok.out hQb hu
        rw [e0] at e0'
        injection e0' with e0'
        injection e0' with x1 x2 _
        subst x1 x2 e0
        rw [← hk1e] at u1 u2
        have hhu : hd (T.drop (k + 1)) = u := by rw [drop_at hu]; rfl
        have hne : T.drop (k + 1) ≠ [] := by rw [drop_at hu]; simp
        have Hst : Hid (numsQ ns (T.drop k) = numsQ (if t.kind = 1 ∧ t.text = wPlace ∧ u.kind = 1 ∧ hasSB ns (bs u.text) = false then ns ++ [bs u.text] else ns) (T.drop (k + 1))) := Lib.hid (by rw [numsQ_step ht, hhu]; simp only [hne, ne_eq, not_false_eq_true, true_and])
        have Hk1 := Lib.hid hk1e
        have HQ := Lib.hid hQ
        have hq : ((bs t.text).toList == [112, 108, 97, 99, 101]) = decide (t.text = wPlace) := by rw [bs_toList]; unfold wPlace; by_cases h : t.text = [112, 108, 97, 99, 101] <;> simp [h]
        have m1 := fun p : NewBy wr => NewBy.cell hbw e1 p
        have m2 := fun p : NewBy wr => NewBy.cell hbw e2 p
        have m3 := fun p : NewBy wr => NewBy.cell hbw u1 p
        have m4 := fun p : NewBy wr => NewBy.cell hbw u2 p
        have mb := fun p : NewBy wr => Nat.lt_of_lt_of_le hbw p.below.size
        obtain ⟨na, nc, c6, hna⟩ := hQ.ns_at
        obtain ⟨nn, hnn⟩ : ∃ n, n = ns.length := ⟨_, rfl⟩
        rw [← hnn] at c6 hna
        obtain ⟨_, _, _, _, _, _, _, hC, -⟩ := hQ.cells
        have hRl := hC.lt
        have m6 := fun p : NewBy wr => NewBy.cell hRl c6 p
        have ml := fun p : NewBy wr => Nat.lt_of_lt_of_le hRl p.below.size
        obtain ⟨K, hK⟩ : ∃ K, K = idxOf (fun x => sEq x (bs u.text)) ns := ⟨_, rfl⟩
        have hge := idxOf_ge (fun x => sEq x (bs u.text)) ns
        rw [← hK] at hge
        have K1 := Lib.hid (fun p : NewBy wr => (plidx_any (s := bs u.text) hnn (hna.below p.below)).mono (fun e w' (hh : _ ∧ _) => (⟨by rw [hK]; exact hh.1, by rw [hh.2]; exact Below.refl _ _⟩ : e = .returned (.int .i64 K) ∧ Below p.to.heap.size p.to w')))
        clear hQ hQb ht hu hhu hne hk1e hna hC hK hnn
        by_cases g1 : t.kind = 1
        case neg =>
          have g1b : ((t.kind : Int) == 1) = false := by simp; omega
          have Hr : Hid (NS = numsQ ns (T.drop (k + 1))) := Lib.hid (by rw [Hk.out, Hst.out, if_neg (by simp [g1])])
          clear g1 Hst hge
          go_wp2
          refine wp_region_new (by kernel_rfl) (by kernel_rfl) ?_
          repeat (go_big_quiet_step (first | (go_at_call 43; exact Calls.new_of (K1.out _))))
          refine wpQuiet_nil ?_
          intro wz hz
          obtain ⟨pz, hz⟩ := hz
          subst hz
          have HQz := Lib.hid (HQ.out.go pz.below)
          clear m1 m2 m3 m4 mb m6 ml K1 HQ
          go_wp2
          go_roundw
          case rel => exact ⟨k + 1, ns, by omega, by rw [Hk1.out], by omega, HQz.out, Hr⟩
          case measure => simp [intOf]; omega
        have g1b : ((t.kind : Int) == 1) = true := by rw [g1]; rfl
        by_cases g2 : t.text = wPlace
        case neg =>
          have Hr : Hid (NS = numsQ ns (T.drop (k + 1))) := Lib.hid (by rw [Hk.out, Hst.out, if_neg (by simp [g2])])
          rw [decide_eq_false g2] at hq
          clear g1 g2 Hst hge
          go_wp2
          refine wp_region_new (by kernel_rfl) (by kernel_rfl) ?_
          repeat (go_big_quiet_step (first | (go_at_call 43; exact Calls.new_of (K1.out _))))
          refine wpQuiet_nil ?_
          intro wz hz
          obtain ⟨pz, hz⟩ := hz
          subst hz
          have HQz := Lib.hid (HQ.out.go pz.below)
          clear m1 m2 m3 m4 mb m6 ml K1 HQ
          go_wp2
          go_roundw
          case rel => exact ⟨k + 1, ns, by omega, by rw [Hk1.out], by omega, HQz.out, Hr⟩
          case measure => simp [intOf]; omega
        rw [decide_eq_true g2] at hq
        by_cases g3 : u.kind = 1
        case neg =>
          have g3b : ((u.kind : Int) == 1) = false := by simp; omega
          have Hr : Hid (NS = numsQ ns (T.drop (k + 1))) := Lib.hid (by rw [Hk.out, Hst.out, if_neg (by simp [g3])])
          clear g1 g2 g3 Hst hge
          go_wp2
          refine wp_region_new (by kernel_rfl) (by kernel_rfl) ?_
          repeat (go_big_quiet_step (first | (go_at_call 43; exact Calls.new_of (K1.out _))))
          refine wpQuiet_nil ?_
          intro wz hz
          obtain ⟨pz, hz⟩ := hz
          subst hz
          have HQz := Lib.hid (HQ.out.go pz.below)
          clear m1 m2 m3 m4 mb m6 ml K1 HQ
          go_wp2
          go_roundw
          case rel => exact ⟨k + 1, ns, by omega, by rw [Hk1.out], by omega, HQz.out, Hr⟩
          case measure => simp [intOf]; omega
        have g3b : ((u.kind : Int) == 1) = true := by rw [g3]; rfl
        cases g4 : hasSB ns (bs u.text) with
        | true =>
          rw [show ns.any (fun x => sEq x (bs u.text)) = true from g4] at hge
          have hK0 : ¬ K < 0 := by have := of_decide_eq_true hge; omega
          have Hr : Hid (NS = numsQ ns (T.drop (k + 1))) := Lib.hid (by rw [Hk.out, Hst.out, if_neg (by simp [g4])])
          clear g1 g2 g3 g4 Hst hge
          go_wp2
          refine wp_region_new (by kernel_rfl) (by kernel_rfl) ?_
          repeat (go_big_quiet_step (first | (go_at_call 43; exact Calls.new_of (K1.out _))))
          refine wpQuiet_nil ?_
          intro wz hz
          obtain ⟨pz, hz⟩ := hz
          subst hz
          have HQz := Lib.hid (HQ.out.go pz.below)
          clear m1 m2 m3 m4 mb m6 ml K1 HQ
          go_wp2
          go_roundw
          case rel => exact ⟨k + 1, ns, by omega, by rw [Hk1.out], by omega, HQz.out, Hr⟩
          case measure => simp [intOf]; omega
        | false =>
          rw [show ns.any (fun x => sEq x (bs u.text)) = false from g4] at hge
          have hK0 : K < 0 := by have := of_decide_eq_false hge; omega
          have Hr : Hid (NS = numsQ (ns ++ [bs u.text]) (T.drop (k + 1))) := Lib.hid (by rw [Hk.out, Hst.out, if_pos ⟨g1, g2, g3, g4⟩])
          clear g1 g2 g3 g4 Hst hge
          go_wp2
          refine wp_region_new (by kernel_rfl) (by kernel_rfl) ?_
          repeat (go_big_quiet_step (first | (go_at_call 43; exact Calls.new_of (K1.out _))))
          refine wpQuiet_nil ?_
          intro wz hz
          obtain ⟨pz, hz⟩ := hz
          subst hz
          have hQz := HQ.out.go pz.below
          have z1 := m1 pz
          have z4 := m4 pz
          have zb := mb pz
          clear m1 m2 m3 m4 mb m6 ml K1
          revert hQz z1 z4 zb
          generalize pz.to = W
          intro hQz z1 z4 zb
          obtain ⟨vn, a6, n6, c6', w2, t0, ⟨a7, n7, c7, rfl⟩, hr, t1, t2, t3, hQ3⟩ := (hQz.go (Below.refl _ _).drew).addNs (bs u.text) (by omega)
          have hlz : w1.heap.size < W.heap.size := by
            obtain ⟨_, _, _, _, _, _, _, hC, -⟩ := hQz.cells
            exact hC.lt
          have HQ3 := Lib.hid hQ3
          replace t0 : W.cell? ⟨w1.heap.size, 6, none⟩ = some (.slice a7 n7 c7) := t0
          clear hQz hQ3 HQ
          have hw1 : IntKind.i64.wrap (k1 : Int) = (k1 : Int) := by simp [IntKind.wrap, IntKind.bits, IntKind.signed]; omega
          go_upto_region 9 with (fail)
          go_region_law (first | (refine step_append_eq (by rfl) (.tmp 76) (.tmp 83) 43 (by rfl) (by rfl) (by rfl) hr ?_))
          all_goals
            clear hr t0 t1 t2 z1 z4
            go_wp2
            go_roundw
            case rel => exact ⟨k + 1, ns ++ [bs u.text], by omega, by rw [Hk1.out], by simp; omega, HQ3.out, Hr⟩
            case measure => simp [intOf]; omega
      · have hge : ¬ (k1 : Int) < (nt : Int) := by omega
        have Hr : Hid (NS = ns) := Lib.hid (by rw [Hk.out, numsQ_last (by rw [← Hnt.out]; omega)])
        have HQ := Lib.hid hQ
        clear hQ
        obtain rfl : NS = ns := Hr.out
        have HEq : Hid (endQ T = itemsQ T NS (fuelQ T D0) D0) := Lib.hid (by unfold endQ; rw [hNSl.out])
        clear Hk hns hk1e Hr
        go_wp2
        clear hk
        refine main_loop (nt := nt) Hnt.out htl2 Htok.out HQ.out ?_
        intro D
        intro q10 q11 q12 q13 q87 q88 q89 q90 q91 q92 q93 q94 q95 q96 q97 q98 q99 q100 q101 q102 q103 q104 q105 q106 q107 q108 q109 q110 q111 q112 q113 q114 q115 q116 q117 q118 q119 q120 q121 q122 q123 q124 q125 q126 q127 q128 q129 q130 q131 q132 q133 q134 q135 q136 q137 q138 q139 q140 q141 q142 q143 q144 q145 q146 q147 q148 q149 q150 q151 q152 q153 q154 q155 q156 q157 q158 q159 q160 q161 q162 q163 q164 q165 q166 q167 q168 q169 q170 q171 q172 q173 q174 q175 q176 q177 q178 q179 q180 q181 q182 q183 q184 q185 q186 q187 q188 q189 q190 q191 q192 q193 q194 q195 q196 q197 q198 q199 q200 q201 q202 q203 q204 q205 q206 q207 q208 q209 q210 q211 q212 q213 q214 q215 q216 q217 q218 q219 q220 q221 q222 q223 q224 q225 q226 q227 q228 q229 q230 q231 q232 q233 q234 q235 q236 q237 q238
        intro wl hQ hED
        obtain ⟨b', off', c', vp, vt, vn, vo, hC, -⟩ := hQ.cells
        have c2 := hC.c2
        have c3 := hC.c3
        have rlt := hC.lt
        clear hC
        have hED2 : endQ T = D := HEq.out.trans hED
        have r0w : wl.cell? ⟨w.heap.size, 0, none⟩ = some (.slice none 0 0) := (below_cells hQ.below _ _ hs1).trans Hr0.out
        have r1w : wl.cell? ⟨w.heap.size, 1, none⟩ = some (.slice none 0 0) := (below_cells hQ.below _ _ hs1).trans Hr1.out
        have f0w : wl.frozen? ⟨w.heap.size, 0, none⟩ = false := (Kept.of_below (S := fun _ => False) hQ.below).froz hs1 (fun e => e) (Hfz.out 0)
        have f1w : wl.frozen? ⟨w.heap.size, 1, none⟩ = false := (Kept.of_below (S := fun _ => False) hQ.below).froz hs1 (fun e => e) (Hfz.out 1)
        have swl : w.heap.size < wl.heap.size := Nat.lt_of_lt_of_le hs1 hQ.below.size
        have HBl : Hid (Below w.heap.size w wl) := Lib.hid (Hb1.out.trans (hQ.below.mono Hb1.out.size))
        by_cases he : D.e = 0
        case neg =>
          have heb : (D.e == 0) = false := by simpa using he
          have HO : Hid (∀ W : World, RParseOut w.heap.size W l (.tuple #[.agg #[.slice none 0 0, .slice none 0 0], .int .i64 D.e, .int .i64 D.at_])) := Lib.hid (fun W => .inr ⟨T, HL.out, .inl ⟨by rw [hED2]; exact he, by rw [hED2]⟩⟩)
          clear hQ he hED hED2
          go_wp2
          go_region
          all_goals
            clear c2 c3 f0w f1w
            go_wp2
            exact bodyPost_ret (v := .tuple #[.agg #[.slice none 0 0, .slice none 0 0], .int .i64 D.e, .int .i64 D.at_]) (by simp [results, Try.results27, go_sem, r0w, r1w]) rfl ⟨_, rfl, HO.out _, by first | exact ((HBl.out.setCell (p := ⟨w.heap.size, 0, none⟩) (Nat.le_refl _) _).setCell (p := ⟨w.heap.size, 1, none⟩) (Nat.le_refl _) _).drew | exact ((HBl.out.drew.setCell (p := ⟨w.heap.size, 0, none⟩) (Nat.le_refl _) _).setCell (p := ⟨w.heap.size, 1, none⟩) (Nat.le_refl _) _)⟩
        rw [he] at c2
        obtain ⟨a1, n1, c1', a2, n2, c2', g4, g5, hnet⟩ := hQ.net
        have hkp : Kept (fun k => k < w1.heap.size) wl ((wl.setCell ⟨w.heap.size, 0, none⟩ (.slice a1 n1 c1')).setCell ⟨w.heap.size, 1, none⟩ (.slice a2 n2 c2')) := ((Kept.refl _ wl).setCell (p := ⟨w.heap.size, 0, none⟩) hs1 _).setCell (p := ⟨w.heap.size, 1, none⟩) hs1 _
        have HO : Hid (RParseOut w.heap.size ((wl.setCell ⟨w.heap.size, 0, none⟩ (.slice a1 n1 c1')).setCell ⟨w.heap.size, 1, none⟩ (.slice a2 n2 c2')) l (.tuple #[.agg #[.slice a1 n1 c1', .slice a2 n2 c2'], .int .i64 0, .int .i64 0])) := Lib.hid (.inr ⟨T, HL.out, .inr ⟨by rw [hED2]; exact he, _, _, by rw [hED2]; exact hnet _ hkp, rfl⟩⟩)
        have HBf : Hid (Below w.heap.size w ((wl.setCell ⟨w.heap.size, 0, none⟩ (.slice a1 n1 c1')).setCell ⟨w.heap.size, 1, none⟩ (.slice a2 n2 c2'))) := Lib.hid ((HBl.out.setCell (p := ⟨w.heap.size, 0, none⟩) (Nat.le_refl _) _).setCell (p := ⟨w.heap.size, 1, none⟩) (Nat.le_refl _) _)
        clear hQ he hED hED2 hnet hkp c3
        go_wp2
        exact bodyPost_ret (v := .tuple #[.agg #[.slice a1 n1 c1', .slice a2 n2 c2'], .int .i64 0, .int .i64 0]) (by simp [results, Try.results27, go_sem, r0w, r1w]) rfl ⟨_, rfl, HO.out, HBf.out⟩
  · have erb : ((er : Int) == 0) = false := by simp; omega
    have f0 := hfz 0
    have f1 := hfz 1
    have HO : Hid (RParseOut w.heap.size (((w1.setCell ⟨w.heap.size, 0, none⟩ (.slice none 0 0)).setCell ⟨w.heap.size, 1, none⟩ (.slice none 0 0))) l (.tuple #[.agg #[.slice none 0 0, .slice none 0 0], .int .i64 (er : Int), .int .i64 (p : Int)])) := Lib.hid (.inl ⟨er, p, h1, her, hp, rfl⟩)
    have Hbf : Hid (Below w.heap.size w ((w1.setCell ⟨w.heap.size, 0, none⟩ (.slice none 0 0)).setCell ⟨w.heap.size, 1, none⟩ (.slice none 0 0))) := Lib.hid ((Hb1.out.setCell (p := ⟨w.heap.size, 0, none⟩) (Nat.le_refl _) _).setCell (p := ⟨w.heap.size, 1, none⟩) (Nat.le_refl _) _)
    clear hfz h1 hp
    go_wp2
    exact bodyPost_ret (v := .tuple #[.agg #[.slice none 0 0, .slice none 0 0], .int .i64 (er : Int), .int .i64 (p : Int)]) (by simp [results, Try.results27, go_sem, r0, r1]) rfl ⟨_, rfl, HO.out, Hbf.out⟩
end
end Go.Proofs.Ytfiielibnnodkaa
