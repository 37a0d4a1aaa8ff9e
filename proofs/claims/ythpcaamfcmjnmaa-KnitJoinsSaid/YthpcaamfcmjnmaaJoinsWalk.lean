/-
  The law KnitJoins, walked: it returns true for every number of elements and every list of pairs.
  Conditions: each number fits its kind.
-/
import Derived.Test.YthpcaamfcmjnmaaPairsOwn
import Derived.Deep.CutRange
namespace Go.Proofs.Ythpcaamfcmjnmaa
open Go.RowKit
set_option linter.unusedVariables false

set_option maxRecDepth 100000 in
set_option maxHeartbeats 2000000 in
theorem joins_big (nv : Int) (A : Option Addr) (n cap : Nat) (near : Bool) (w : World) (hn : 30 < n) (hm : n ≤ 9223372036854775807) :
    Calls Try.prog 4 #[.int .u8 nv, .slice A n cap, .bool near] w fun e w' => e = .returned (.bool true) ∧ Below w.heap.size w w' := by
  go_enter Try.func4, Try.ntmps4
  go_wp2_with fail
  refine (awake3 _).mono ?_
  rintro e w1 ⟨rfl, hB⟩
  have HB := Lib.hid hB
  clear hB
  go_wp2_with fail
  refine (awake3 _).mono ?_
  rintro e w2 ⟨rfl, hB⟩
  go_wp2
  go_ret
  exact ⟨rfl, HB.out.trans (hB.mono HB.out.size)⟩

/-- what the loop over the pairs has -/
structure InJoins (wa : World) (m : Nat) (dn : List (Int × Int)) (rho : Nat → Nat) (v : Value) (wr : World) : Prop where
  knit : KnitAt wa.heap.size wr (wa.heap.size + 1) wa.heap.size m rho
  math : Knits m dn rho
  own : wr.ownsRow (wa.heap.size + 2) 39 2 v dn.length (pcells dn)
  wf : WfP dn
  below : Below wa.heap.size wa wr

section
variable {wa wr w' : World} {m : Nat} {dn : List (Int × Int)} {rho : Nat → Nat} {v v' : Value}

theorem InJoins.big (h : InJoins wa m dn rho v wr) : wa.heap.size + 2 ≤ wr.heap.size := by have := h.knit.lt; omega

theorem InJoins.after (h : InJoins wa m dn rho v wr) (hb : Below wr.heap.size wr w') : InJoins wa m dn rho v w' :=
  ⟨h.knit.below hb, h.math, ownS (S := fun _ => False) h.own (Kept.of_below hb) (fun _ _ e => e), h.wf, h.below.trans (hb.mono h.below.size)⟩

theorem InJoins.push (h : InJoins wa m dn rho v wr) (hk : Kept (fun k => v.ownBlock = some k) wr w') {x y : Int} (ho : w'.ownsRow (wa.heap.size + 2) 39 2 v' (dn ++ [(x, y)]).length (pcells (dn ++ [(x, y)]))) (hx : (Lit.int .i64 x).wf = true) (hy : (Lit.int .i64 y).wf = true)
    {rho' : Nat → Nat} {w'' : World} (hm : Knits m (dn ++ [(x, y)]) rho') (h2 : KnitAt wa.heap.size w'' (wa.heap.size + 1) wa.heap.size m rho') (hk2 : Kept (fun k => k = wa.heap.size) w' w'') : InJoins wa m (dn ++ [(x, y)]) rho' v' w'' := by
  refine ⟨h2, hm, ownS ho hk2 (fun r e f => by have := (ho.lt r e).1; omega), h.wf.snoc hx hy, h.below.trans ((hk.below (fun k e => by have := (h.own.lt k e).1; omega) h.below.size).trans (hk2.below (fun k e => by omega) (Nat.le_trans h.below.size hk.size)))⟩

end

theorem near22 (c : Int) : ∃ k : Nat, wrap64 ((IntKind.u64.wrap c).tmod 22) = (k : Int) ∧ k ≤ 21 := by
  have h0 : 0 ≤ IntKind.u64.wrap c := by simp [IntKind.wrap, IntKind.signed, IntKind.bits]; omega
  rw [Int.tmod_eq_emod_of_nonneg h0]
  refine ⟨(IntKind.u64.wrap c % 22).toNat, ?_, by omega⟩
  unfold wrap64
  omega

set_option maxRecDepth 100000 in
set_option maxHeartbeats 16000000 in
theorem joins_law (N : Nat) (hN : N ≤ 255) (A : Option Addr) (cap : Nat) (ls : List (Int × Int)) (near : Bool) (w : World) (hr : ReadsP .i64 w A ls) (hl : ls.length ≤ 30) :
    Calls Try.prog 4 #[.int .u8 N, .slice A ls.length cap, .bool near] w fun e w' => e = .returned (.bool true) ∧ Below w.heap.size w w' := by
  have Hr := Lib.hid hr
  clear hr
  obtain ⟨n, hn⟩ : ∃ n, n = ls.length := ⟨_, rfl⟩
  rw [← hn] at hl ⊢
  have Hn := Lib.hid hn
  clear hn
  go_enter Try.func4, Try.ntmps4
  go_wp2_with fail
  refine (awake3 _).mono ?_
  rintro e wa ⟨rfl, hB⟩
  have HB := Lib.hid hB
  clear hB
  go_wp2_with fail
  obtain ⟨m, hm1⟩ : ∃ m : Nat, (N : Int) % 20 = m := ⟨N % 20, by omega⟩
  rw [hm1]
  have hm20 : m < 20 := by omega
  clear hm1
  refine (new_any m (by omega) wa).mono ?_
  rintro e w1 ⟨rfl, h1, b1⟩
  have J0 : Hid (InJoins wa m [] (fun c => c) (.slice none 0 0) w1) := Lib.hid ⟨h1, Knits.start m, World.ownsRow_nil _ _ _ _, fun i h => by simp at h, b1⟩
  clear h1 b1
  go_wp2
  go_loopw [9, 10] (fun s t wr => ∃ dn : List (Int × Int), ∃ rho : Nat → Nat, dn.length ≤ n ∧ t = .int .i64 dn.length ∧ InJoins wa m dn rho s wr) (fun _ t _ => n - (intOf t).toNat)
  case atStart => exact ⟨[], _, by simp, rfl, J0.out⟩
  case round =>
    obtain ⟨dn, rho, hi, rfl, hJ⟩ := hrel
    obtain ⟨av, cv, hsv⟩ := own_form hJ.own
    subst hsv
    have J := Lib.hid hJ
    clear hJ
    obtain ⟨i, hid⟩ : ∃ i, i = dn.length := ⟨_, rfl⟩
    have Hi := Lib.hid hid
    rw [← hid] at hi
    simp only [← hid] at J ⊢
    clear hid
    by_cases hlt : i < n
    · obtain ⟨b, off, hA, hbl, x0, y0, hxy, c1, c2, wx0, wy0⟩ := Hr.out.place i (by rw [← Hn.out]; exact hlt)
      subst hA
      have hbw : b < wa.heap.size := by have := HB.out.size; omega
      have e1 := (J.out.below.cell (p := ⟨b, off + i * 2, none⟩) hbw).trans ((HB.out.cell (p := ⟨b, off + i * 2, none⟩) hbl).trans c1)
      have e2 := (J.out.below.cell (p := ⟨b, off + i * 2 + 1, none⟩) hbw).trans ((HB.out.cell (p := ⟨b, off + i * 2 + 1, none⟩) hbl).trans c2)
      clear c1 c2 hxy
      have hii : (i : Int) < (n : Int) := by omega
      go_upto_if 39 with fail
      go_cut [11] from 29 to 72 (fun s wc => s = .pointer (some ⟨wr.heap.size, 0, none⟩) ∧ ∃ x y : Int, (Lit.int .i64 x).wf = true ∧ (Lit.int .i64 y).wf = true ∧ wc.heap[wr.heap.size]? = some (.cells #[.int .i64 x, .int .i64 y] 39 (0, 0)) ∧ Below wr.heap.size wr wc)
      case first =>
        cases near with
        | false =>
          go_wp2
          go_meet
          case rel => exact ⟨rfl, x0, y0, wx0, wy0, heap_alloc_new _ _, (Below.refl _ _).alloc (Nat.le_refl _) _⟩
        | true =>
          obtain ⟨kx, hkx, hkx2⟩ := near22 x0
          obtain ⟨ky, hky, hky2⟩ := near22 y0
          go_wp2
          go_meet
          case rel => exact ⟨rfl, kx, ky, wf_nat kx (by omega), wf_nat ky (by omega), heap_alloc_new _ _, (Below.refl _ _).alloc (Nat.le_refl _) _⟩
      case rest =>
        obtain ⟨rfl, x, y, wx, wy, hp, hBp⟩ := hcut
        obtain ⟨pb, hpb⟩ : ∃ pb, pb = wr.heap.size := ⟨_, rfl⟩
        rw [← hpb] at hp ⊢
        have hvp : ∀ k, (Value.slice av i cv).ownBlock = some k → k ≠ pb := fun k e => by have := (J.out.own.lt k e).2; omega
        have J1 := Lib.hid (J.out.after hBp)
        have hpl : pb < wc.heap.size := (Array.getElem?_eq_some_iff.1 hp).1
        have hpa : wa.heap.size + 2 ≤ pb := by have := J.out.big; omega
        have c0 : wc.cell? ⟨pb, 0, none⟩ = some (.int .i64 x) := by rw [cell_of_row _ _ 0 _ _ (0, 0) hp]; rfl
        have c1 : wc.cell? ⟨pb, 1, none⟩ = some (.int .i64 y) := by rw [cell_of_row _ _ 1 _ _ (0, 0) hp]; rfl
        clear J hBp hp hpb e1 e2
        go_wp2_with fail
        have rg := ref_groups m (by omega) dn av cv rho J1.out.math wc (own_reads J1.out.own J1.out.wf) (by rw [← Hi.out]; omega)
        rw [← Hi.out] at rg
        refine rg.mono ?_
        clear rg
        rintro e w2 ⟨v2, vs2, rfl, hR2, hB2⟩
        obtain ⟨a2, cap2, hf2⟩ := hR2.form
        rw [groups_len] at hf2
        subst hf2
        have J2 := Lib.hid (J1.out.after hB2)
        have d0 := (hB2.cell (p := ⟨pb, 0, none⟩) hpl).trans c0
        have d1 := (hB2.cell (p := ⟨pb, 1, none⟩) hpl).trans c1
        have hpl2 : pb < w2.heap.size := Nat.lt_of_lt_of_le hpl hB2.size
        obtain ⟨l1, hl1⟩ : ∃ l1, l1 = (roots rho m).length := ⟨_, rfl⟩
        rw [← hl1]
        have Hl1 := Lib.hid hl1
        clear hl1 hR2 hB2 c0 c1 J1
        obtain ⟨v3, w3, hr3, ho3, hk3⟩ := run_push_pair 36 x y J2.out.own (by rw [← Hi.out]; omega) J2.out.big
        obtain ⟨a3, cap3, hf3⟩ := own_form ho3
        have hlen3 : (dn ++ [(x, y)]).length = i + 1 := by rw [List.length_append, Hi.out]; rfl
        rw [hlen3] at hf3
        subst hf3
        have g0 := hk3.cell hpl2 (fun e => hvp _ e rfl) d0
        have g1 := hk3.cell hpl2 (fun e => hvp _ e rfl) d1
        have KN3 : Hid (KnitAt wa.heap.size w3 (wa.heap.size + 1) wa.heap.size m rho) := Lib.hid (J2.out.knit.kept hk3 (fun e => by have := (J2.out.own.lt _ e).1; omega) (fun e => by have := (J2.out.own.lt _ e).1; omega))
        have HK3 := Lib.hid hk3
        have HO3 := Lib.hid ho3
        have HL3 := Lib.hid hlen3
        have Hvp := Lib.hid hvp
        clear hk3 ho3 hlen3 hvp
        by_cases hin : InR m (x, y)
        · obtain ⟨a, rfl⟩ : ∃ a : Nat, x = a := ⟨x.toNat, by unfold InR at hin; simp at hin; omega⟩
          obtain ⟨c, rfl⟩ : ∃ c : Nat, y = c := ⟨y.toNat, by unfold InR at hin; simp at hin; omega⟩
          have ham : a < m := by unfold InR at hin; simp at hin; omega
          have hcm : c < m := by unfold InR at hin; simp at hin; omega
          go_wp2_with (at_builtin; refine wpList_append_eq rfl (.tmp 56) (.tmp 58) 36 rfl rfl rfl hr3 ?_)
          refine (join_in a c KN3.out ham hcm).mono ?_
          rintro e w4 ⟨rfl, h4, k4⟩
          by_cases hac : rho a = rho c
          · have Hac := Lib.hid hac
            rw [joined_same a c hac] at h4
            rw [show decide (rho a ≠ rho c) = false by simp [hac]]
            have HM : Hid (Knits m (dn ++ [((a : Int), (c : Int))]) rho) := Lib.hid (by
              rcases J2.out.math.step ((a : Int), (c : Int)) with h | h
              · simp only [Int.toNat_natCast] at h; rw [joined_same a c Hac.out] at h; exact h
              · exact absurd hin h)
            clear hac
            have J4 : Hid (InJoins wa m (dn ++ [((a : Int), (c : Int))]) (rho) (.slice a3 (i + 1) cap3) w4) := Lib.hid (J2.out.push HK3.out HO3.out wx wy (HM.out) h4 k4)
            clear h4 k4 KN3 J2
            go_wp2_with fail
            have rg := ref_groups m (by omega) (dn ++ [((a : Int), (c : Int))]) a3 cap3 (rho) J4.out.math w4 (own_reads J4.out.own J4.out.wf) (by rw [HL3.out]; omega)
            rw [HL3.out] at rg
            refine rg.mono ?_
            clear rg
            rintro e w5 ⟨v5, vs5, rfl, hR5, hB5⟩
            obtain ⟨a5, cap5, hf5⟩ := hR5.form
            rw [groups_len] at hf5
            subst hf5
            have J5 := Lib.hid (J4.out.after hB5)
            obtain ⟨l2, hl2⟩ : ∃ l2, l2 = (roots (rho) m).length := ⟨_, rfl⟩
            rw [← hl2]
            have Hl2 := Lib.hid hl2
            have hcmp : ¬ (l2 : Int) < (l1 : Int) := by rw [Hl2.out, Hl1.out]; omega
            clear hl2 hR5 hB5 J4
            go_wp2
            go_roundw
            case rel => exact ⟨dn ++ [((a : Int), (c : Int))], rho, by rw [HL3.out]; omega, by rw [HL3.out]; go_num, J5.out⟩
            case measure => simp [intOf]; omega
          · have Hac := Lib.hid hac
            rw [show decide (rho a ≠ rho c) = true by simp [hac]]
            have HM : Hid (Knits m (dn ++ [((a : Int), (c : Int))]) (joined rho a c)) := Lib.hid (by
              rcases J2.out.math.step ((a : Int), (c : Int)) with h | h
              · simp only [Int.toNat_natCast] at h; exact h
              · exact absurd hin h)
            have HC := Lib.hid (roots_joined J2.out.math.root a c ham hcm hac)
            clear hac
            have J4 : Hid (InJoins wa m (dn ++ [((a : Int), (c : Int))]) (joined rho a c) (.slice a3 (i + 1) cap3) w4) := Lib.hid (J2.out.push HK3.out HO3.out wx wy (HM.out) h4 k4)
            clear h4 k4 KN3 J2
            go_wp2_with fail
            have rg := ref_groups m (by omega) (dn ++ [((a : Int), (c : Int))]) a3 cap3 (joined rho a c) J4.out.math w4 (own_reads J4.out.own J4.out.wf) (by rw [HL3.out]; omega)
            rw [HL3.out] at rg
            refine rg.mono ?_
            clear rg
            rintro e w5 ⟨v5, vs5, rfl, hR5, hB5⟩
            obtain ⟨a5, cap5, hf5⟩ := hR5.form
            rw [groups_len] at hf5
            subst hf5
            have J5 := Lib.hid (J4.out.after hB5)
            obtain ⟨l2, hl2⟩ : ∃ l2, l2 = (roots (joined rho a c) m).length := ⟨_, rfl⟩
            rw [← hl2]
            have Hl2 := Lib.hid hl2
            have hcmp : (l2 : Int) < (l1 : Int) := by rw [Hl2.out, Hl1.out]; have := HC.out; omega
            clear hl2 hR5 hB5 J4
            go_wp2
            go_roundw
            case rel => exact ⟨dn ++ [((a : Int), (c : Int))], joined rho a c, by rw [HL3.out]; omega, by rw [HL3.out]; go_num, J5.out⟩
            case measure => simp [intOf]; omega
        · go_wp2_with (at_builtin; refine wpList_append_eq rfl (.tmp 56) (.tmp 58) 36 rfl rfl rfl hr3 ?_)
          refine (join_out x y KN3.out (by unfold InR at hin; simp at hin; omega)).mono ?_
          rintro e w4 ⟨rfl, h4, k4⟩
          have HM : Hid (Knits m (dn ++ [(x, y)]) rho) := Lib.hid (J2.out.math.out (x, y) hin)
          have J4 : Hid (InJoins wa m (dn ++ [(x, y)]) (rho) (.slice a3 (i + 1) cap3) w4) := Lib.hid (J2.out.push HK3.out HO3.out wx wy (HM.out) h4 k4)
          clear h4 k4 KN3 J2
          go_wp2_with fail
          have rg := ref_groups m (by omega) (dn ++ [(x, y)]) a3 cap3 (rho) J4.out.math w4 (own_reads J4.out.own J4.out.wf) (by rw [HL3.out]; omega)
          rw [HL3.out] at rg
          refine rg.mono ?_
          clear rg
          rintro e w5 ⟨v5, vs5, rfl, hR5, hB5⟩
          obtain ⟨a5, cap5, hf5⟩ := hR5.form
          rw [groups_len] at hf5
          subst hf5
          have J5 := Lib.hid (J4.out.after hB5)
          obtain ⟨l2, hl2⟩ : ∃ l2, l2 = (roots (rho) m).length := ⟨_, rfl⟩
          rw [← hl2]
          have Hl2 := Lib.hid hl2
          have hcmp : ¬ (l2 : Int) < (l1 : Int) := by rw [Hl2.out, Hl1.out]; omega
          clear hl2 hR5 hB5 J4
          go_wp2
          go_roundw
          case rel => exact ⟨dn ++ [(x, y)], rho, by rw [HL3.out]; omega, by rw [HL3.out]; go_num, J5.out⟩
          case measure => simp [intOf]; omega
    · obtain ⟨wb, hwb⟩ : ∃ wb, wb = wr := ⟨_, rfl⟩
      subst hwb
      have hbig : wa.heap.size + 2 ≤ wb.heap.size := J.out.big
      go_wp2_with fail
      have rg := ref_groups m (by omega) dn av cv rho J.out.math wb (own_reads J.out.own J.out.wf) (by rw [← Hi.out]; omega)
      rw [← Hi.out] at rg
      refine rg.mono ?_
      clear rg
      rintro e w2 ⟨v2, vs2, rfl, hR2, hB2⟩
      have K2 := Lib.hid (J.out.knit.below hB2)
      have B2 := Lib.hid (J.out.below.trans (hB2.mono J.out.below.size))
      have R2 := Lib.hid hR2
      have Hroot := Lib.hid J.out.math.root
      clear hR2 hB2 J
      go_wp2_with fail
      refine (groups_any w2 K2.out).mono ?_
      rintro e w3 ⟨v3, vs3, rfl, hR3, h3, k3⟩
      have R3 := Lib.hid (R2.out.kept k3 (fun k h e => by omega))
      have B3 := Lib.hid (B2.out.trans (K2.out.belowB k3))
      have K3 := Lib.hid h3
      have R3' := Lib.hid hR3
      clear hR3 h3 k3 R2 K2 B2
      go_wp2_with fail
      refine (same_rows w3 v3 v2 vs3 vs2 (groupsOf rho m) R3'.out R3.out (by rw [groups_len]; have := roots_len_le rho m; omega) (fun i => by have := groups_row_le rho m i; omega)).mono ?_
      rintro e w4 ⟨rfl, b4⟩
      have R4 := Lib.hid (R3.out.below b4)
      have K4 := Lib.hid (K3.out.below b4)
      have B4 := Lib.hid (B3.out.trans (b4.mono B3.out.size))
      clear b4 R3 R3' K3 B3
      obtain ⟨a2, cap2, hf2⟩ := R4.out.form
      rw [groups_len] at hf2
      subst hf2
      obtain ⟨L, hL⟩ : ∃ L, L = (roots rho m).length := ⟨_, rfl⟩
      have hLm : L ≤ m := by rw [hL]; exact roots_len_le rho m
      have HL := Lib.hid hL
      simp only [← hL] at R4 ⊢
      clear hL
      go_wp2
      go_loopw [14] (fun t wr => ∃ g : Nat, g ≤ L ∧ t = .int .i64 g ∧ Rows2 wb.heap.size wr (.slice a2 L cap2) vs2 (groupsOf rho m) ∧ KnitAt wa.heap.size wr (wa.heap.size + 1) wa.heap.size m rho ∧ Below wa.heap.size wa wr) (fun t _ => L - (intOf t).toNat)
      case atStart => exact ⟨0, by omega, rfl, R4.out, K4.out, B4.out⟩
      case round =>
        obtain ⟨g, hg, rfl, hR, hK, hB⟩ := hrel
        by_cases hgL : g < L
        · have hgl : g < (groupsOf rho m).length := by rw [groups_len, ← HL.out]; exact hgL
          have hgr : g < (roots rho m).length := by rw [← HL.out]; exact hgL
          obtain ⟨r, cap', hv, hrB, hrl, hcell⟩ := hR.place (by omega)
          injection hv with hv1 hv2 hv3
          subst hv1 hv3
          obtain ⟨ag, cg, hrow⟩ := hR.rowform g hgl
          have og := hR.row g hgl
          rw [hrow] at og
          have d1 := (hcell g hgl).1
          rw [hrow] at d1
          obtain ⟨hr1, hr2⟩ := rootAt_mem hgr
          obtain ⟨q, hq⟩ : ∃ q, q = rootAt rho m g := ⟨_, rfl⟩
          rw [← hq] at hr1 hr2
          rw [group_at hgr, ← hq] at og d1
          have hlg : 0 < (grp rho m q).length := grp_some hr1 hr2
          have hhead := grp_head Hroot.out hr1 m hr2
          have hlgm := grp_le rho m q
          obtain ⟨rg, hag, hrgl, hc0⟩ := own_place og 0 hlg
          subst hag
          have hrgB := (og.lt rg (by simp [Value.ownBlock])).1
          rw [hhead] at hc0
          have OG : Hid (∀ i, i < (grp rho m q).length → wr.cell? ⟨rg, i, none⟩ = some (.int .i64 (((grp rho m q).getD i 0 : Nat) : Int))) := Lib.hid (fun i hi => by
            obtain ⟨rg', he, _, hc⟩ := own_place og i hi
            injection he with he
            injection he with he
            subst he
            exact hc)
          obtain ⟨lg, hlgd⟩ : ∃ lg, lg = (grp rho m q).length := ⟨_, rfl⟩
          rw [← hlgd] at d1 hlg hlgm
          have Hlg := Lib.hid hlgd
          have Hq := Lib.hid hq
          have R := Lib.hid hR
          have K := Lib.hid hK
          have Bz := Lib.hid hB
          have Hr1 := Lib.hid hr1
          obtain ⟨wg, hwg⟩ : ∃ wg, wg = wr := ⟨_, rfl⟩
          subst hwg
          clear hlgd hq hR hK hB hcell hrow og hv2 hhead hr1
          go_wp2
          go_loopw [15] (fun t wr => ∃ i : Nat, i ≤ lg ∧ t = .int .i64 i ∧ Kept (fun k => k = wa.heap.size) wg wr ∧ KnitAt wa.heap.size wr (wa.heap.size + 1) wa.heap.size m rho) (fun t _ => lg - (intOf t).toNat)
          case atStart => exact ⟨0, by omega, rfl, Kept.refl _ _, K.out⟩
          case round =>
            obtain ⟨i2, hi2, rfl, hk2, hK2⟩ := hrel
            have D1 := hk2.cell hrl (by omega) d1
            have C0 := hk2.cell hrgl (by omega) hc0
            have hgLi : (g : Int) < (L : Int) := by omega
            have hg0 : (0 : Int) ≤ (g : Int) := by omega
            by_cases hlt2 : i2 < lg
            · have hil : i2 < (grp rho m q).length := by rw [← Hlg.out]; exact hlt2
              have hci := hk2.cell hrgl (by omega) (OG.out i2 hil)
              obtain ⟨hm1, hm2⟩ := grp_mem hil
              obtain ⟨c, hc⟩ : ∃ c, c = (grp rho m q).getD i2 0 := ⟨_, rfl⟩
              rw [← hc] at hci hm1 hm2
              have Hm1 := Lib.hid hm1
              have KK := Lib.hid (hK2.below (Below.drew (Below.refl _ _)))
              have HK2 := Lib.hid hk2
              have hrw : r < wr.drew.heap.size := Nat.lt_of_lt_of_le hrl hk2.size
              have hrgw : rg < wr.drew.heap.size := Nat.lt_of_lt_of_le hrgl hk2.size
              have hnr : ¬ r = wa.heap.size := by omega
              have hnrg : ¬ rg = wa.heap.size := by omega
              have hi2l : (i2 : Int) < (lg : Int) := by omega
              have hi20 : (0 : Int) ≤ (i2 : Int) := by omega
              have hlg0 : (0 : Int) < (lg : Int) := by omega
              clear hc hm1 hil hk2 hK2 d1 hc0
              go_wp2
              go_region_held3 (fun w' => w'.cell? ⟨r, g, none⟩ = some (.slice (some ⟨rg, 0, none⟩) lg cg) ∧ w'.cell? ⟨rg, i2, none⟩ = some (.int .i64 c) ∧ w'.cell? ⟨rg, 0, none⟩ = some (.int .i64 q)) (first | go_keep | exact ⟨f1, f2, f3⟩ | exact ⟨f4, f5, f6⟩)
                (first | ((go_at_call 21; refine (find_in c KK.out hm2).mono ?_; rintro e w5 ⟨rfl, h5, k5⟩; rw [Hm1.out]; have f1 := k5.cell hrw hnr (show wr.drew.cell? ⟨r, g, none⟩ = _ from D1); have f2 := k5.cell hrgw hnrg (show wr.drew.cell? ⟨rg, i2, none⟩ = _ from hci); have f3 := k5.cell hrgw hnrg (show wr.drew.cell? ⟨rg, 0, none⟩ = _ from C0))) | ((go_at_call 22; refine (same_in c q h5 hm2 hr2).mono ?_; rintro e w6 ⟨rfl, h6, k6⟩; rw [show decide (rho c = rho q) = true by simp [Hm1.out, Hr1.out]]; have f4 := k6.cell (Nat.lt_of_lt_of_le hrw k5.size) hnr f1; have f5 := k6.cell (Nat.lt_of_lt_of_le hrgw k5.size) hnrg f2; have f6 := k6.cell (Nat.lt_of_lt_of_le hrgw k5.size) hnrg f3)))
              have Kn := Lib.hid ((HK2.out.drew.trans k5).trans k6)
              have KNn := Lib.hid h6
              clear f1 f2 f3 f4 f5 f6 h5 h6 k5 k6 D1 C0 hci KK HK2
              go_wp2
              go_roundw
              case rel => exact ⟨i2 + 1, by omega, by go_num, Kn.out, KNn.out⟩
              case measure => simp [intOf]; omega
            · have Bn := Lib.hid (Bz.out.trans (hk2.below (fun k e => by omega) Bz.out.size))
              have Rn := Lib.hid (R.out.kept hk2 (fun k h e => by omega))
              have Kn := Lib.hid hK2
              have KK := Lib.hid (hK2.below (Below.drew (Below.refl _ _)))
              have hlg0 : (0 : Int) < (lg : Int) := by omega
              by_cases hgz : g = 0
              · subst hgz
                clear hk2 hK2 d1 hc0
                go_wp2
                go_quiet (fail)
                go_wp2
                go_roundw
                case rel => exact ⟨0 + 1, by omega, by go_num, Rn.out.below (below_drewN' (Below.refl _ _) nq), Kn.out.below (below_drewN' (Below.refl _ _) nq), below_drewN' Bn.out nq⟩
                case measure => simp [intOf]; omega
              · obtain ⟨g1, hg1⟩ : ∃ g1 : Nat, (g : Int) - 1 = g1 := ⟨g - 1, by omega⟩
                have hg1l : g1 < (groupsOf rho m).length := by rw [groups_len, ← HL.out]; omega
                have hg1r : g1 < (roots rho m).length := by rw [← HL.out]; omega
                have hne : rootAt rho m g ≠ rootAt rho m g1 := roots_apart (by rw [← HL.out]; exact hgL) hg1r (by omega)
                rw [← Hq.out] at hne
                obtain ⟨r', cap'', hv', hrB', hrl', hcell'⟩ := Rn.out.place (by omega)
                injection hv' with hv1' hv2' hv3'
                injection hv1' with hv1'
                injection hv1' with hv1'
                subst hv1' hv3'
                obtain ⟨ah, ch, hrow'⟩ := Rn.out.rowform g1 hg1l
                have oh := Rn.out.row g1 hg1l
                rw [hrow'] at oh
                have d1' := (hcell' g1 hg1l).1
                rw [hrow'] at d1'
                obtain ⟨hr1', hr2'⟩ := rootAt_mem hg1r
                obtain ⟨q', hq'⟩ : ∃ q', q' = rootAt rho m g1 := ⟨_, rfl⟩
                rw [← hq'] at hr1' hr2' hne
                rw [group_at hg1r, ← hq'] at oh d1'
                have hlh : 0 < (grp rho m q').length := grp_some hr1' hr2'
                have hhead' := grp_head Hroot.out hr1' m hr2'
                obtain ⟨rh, hah, hrhl, hc0'⟩ := own_place oh 0 hlh
                subst hah
                have hrhB := (oh.lt rh (by simp [Value.ownBlock])).1
                rw [hhead'] at hc0'
                obtain ⟨lh, hlhd⟩ : ∃ lh, lh = (grp rho m q').length := ⟨_, rfl⟩
                rw [← hlhd] at d1' hlh
                have hlh0 : (0 : Int) < (lh : Int) := by omega
                have Hr1' := Lib.hid hr1'
                have Hne := Lib.hid hne
                have hgz0 : (0 : Int) < (g : Int) := by omega
                have hgzn : 0 < g := by omega
                have hg1w : IntKind.i64.wrap ((g : Int) - 1) = (g1 : Int) := (IntWalk.i64_in _ (by omega)).trans hg1
                have hg1L : (g1 : Int) < (L : Int) := by omega
                have hg10 : (0 : Int) ≤ (g1 : Int) := by omega
                have hrw : r < wr.drew.heap.size := hrl'
                have hrgw : rg < wr.drew.heap.size := Nat.lt_of_lt_of_le hrgl hk2.size
                have hrhw : rh < wr.drew.heap.size := hrhl
                have hnr : ¬ r = wa.heap.size := by omega
                have hnrg : ¬ rg = wa.heap.size := by omega
                have hnrh : ¬ rh = wa.heap.size := by omega
                clear hg1 hk2 hK2 d1 hc0 hq' hcell' hrow' oh hhead' hlhd hr1' hne hv2' hg1l hg1r
                go_wp2
                go_region_held3 (fun w' => w'.cell? ⟨r, g, none⟩ = some (.slice (some ⟨rg, 0, none⟩) lg cg) ∧ w'.cell? ⟨rg, 0, none⟩ = some (.int .i64 q) ∧ w'.cell? ⟨r, g1, none⟩ = some (.slice (some ⟨rh, 0, none⟩) lh ch) ∧ w'.cell? ⟨rh, 0, none⟩ = some (.int .i64 q')) (first | go_keep | exact ⟨f1, f2, f3, f4⟩)
                  ((go_at_call 22; refine (same_in q q' KK.out hr2 hr2').mono ?_; rintro e w5 ⟨rfl, h5, k5⟩; rw [show decide (rho q = rho q') = false by simp [Hr1.out, Hr1'.out, Hne.out]]; have f1 := k5.cell hrw hnr (show wr.drew.cell? ⟨r, g, none⟩ = _ from D1); have f2 := k5.cell hrgw hnrg (show wr.drew.cell? ⟨rg, 0, none⟩ = _ from C0); have f3 := k5.cell hrw hnr (show wr.drew.cell? ⟨r, g1, none⟩ = _ from d1'); have f4 := k5.cell hrhw hnrh (show wr.drew.cell? ⟨rh, 0, none⟩ = _ from hc0')))
                have Rz := Lib.hid ((Rn.out.below ((Below.refl _ _).drew)).kept k5 (fun k h e => by omega))
                have Kz := Lib.hid h5
                have Bz2 := Lib.hid (Bn.out.drew.trans (KK.out.belowB k5))
                clear f1 f2 f3 f4 h5 k5
                go_wp2
                go_roundw
                case rel => exact ⟨g + 1, by omega, by go_num, Rz.out, Kz.out, Bz2.out⟩
                case measure => simp [intOf]; omega
        · go_wp2
          go_ret
          exact ⟨rfl, HB.out.trans (hB.mono HB.out.size)⟩

theorem joins_lawI (n : Int) (hn1 : 0 ≤ n) (hn2 : n ≤ 255) (A : Option Addr) (cap : Nat) (ls : List (Int × Int)) (near : Bool) (w : World) (hr : ReadsP .i64 w A ls) (hm : ls.length ≤ 9223372036854775807) :
    Calls Try.prog 4 #[.int .u8 n, .slice A ls.length cap, .bool near] w fun e w' => e = .returned (.bool true) ∧ Below w.heap.size w w' := by
  obtain ⟨N, rfl⟩ : ∃ N : Nat, n = N := ⟨n.toNat, by omega⟩
  by_cases hl : ls.length ≤ 30
  · exact joins_law N (by omega) A cap ls near w hr hl
  · exact joins_big N A ls.length cap near w (by omega) hm

end Go.Proofs.Ythpcaamfcmjnmaa
