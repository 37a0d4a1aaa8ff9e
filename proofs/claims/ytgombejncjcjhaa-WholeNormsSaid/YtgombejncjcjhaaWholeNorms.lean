/-
  For every list of ints the law WholeNorms returns true: Norm divides a vector by the greatest number that divides all its elements, and leaves what is handed in (the law looks at lists of up to 20, the least int lifted by one).
  Conditions: none; l is any slice of ints.
-/
import Derived.Test.YtgombejncjcjhaaSame
import Derived.Test.YtgombejncjcjhaaAwake
import Derived.ProofKit
import Derived.OpenShut
import Derived.ShutString
import Derived.ChangeOld
import Derived.Below
namespace Go.Proofs.Ytgombejncjcjhaa.wholeNorms
open Go.ChangeShapes Go.WideShapes Go.ChangeAt Go.RowKit
open Go.ChangeMaps (open_string shut_string)
set_option linter.unusedVariables false

theorem own : ownKnob Try.prog.godebug = none := by kernel_rfl
theorem laidOut : laidOutB Try.prog = true := by kernel_rfl

theorem walk (a0 : Option Addr) (len0 cap0 : Nat) (z0 : List Int) (w : World) (w0 : IsRow .i64 w a0 len0 cap0 z0) :
    Calls Try.prog 7 #[.slice a0 len0 cap0] w fun e w' => e = .returned (.bool true) ∧ Below w.heap.size w w' := by
  obtain ⟨i0, hi, hz0, hz1, hz2⟩ := info_parts Try.info3
  obtain ⟨xs, rfl, hx, hxi, hxm, hxc⟩ := w0.reads
  unfold maxLen at hxm
  clear w0 hxc z0
  have Hx := Lib.hid hx
  have Hxi := Lib.hid hxi
  clear hx hxi
  obtain ⟨n, hn⟩ : ∃ n, n = xs.length := ⟨_, rfl⟩
  rw [← hn] at hxm ⊢
  have Hn := Lib.hid hn
  clear hn
  by_cases hl : n ≤ 20
  · obtain ⟨vs, hvs⟩ : ∃ vs, vs = xs.map abv := ⟨_, rfl⟩
    have hsm : Small vs := by rw [hvs]; exact small_abv xs Hxi.out
    have Hvs := Lib.hid hvs
    have HvL : Hid (vs.length = n) := Lib.hid (by rw [hvs, Hn.out]; simp)
    have Hsm := Lib.hid hsm
    clear hvs hsm
    go_enter Try.func7, Try.ntmps7
    go_wp2_with fail
    refine (awake1 _).mono ?_
    rintro e wa ⟨rfl, hB⟩
    have Hx1 := Lib.hid (Hx.out.below hB)
    have HB := Lib.hid hB
    clear hB
    go_wp2
    go_loopw [3, 4, 5, 6] (fun v u g i wr => ∃ k : Nat, k ≤ n ∧ i = .int .i64 k ∧ g = .int .i64 (gcdl (vs.take k)) ∧ Own2 wa.heap.size wr v u (vs.take k) (vs.take k) ∧ Below wa.heap.size wa wr)
      (fun _ _ _ i _ => n - (intOf i).toNat)
    case atStart => exact ⟨0, Nat.zero_le _, rfl, rfl, Own2.start _ _, Below.refl _ _⟩
    case round =>
      obtain ⟨k, hk, rfl, rfl, ho, hb⟩ := hrel
      have Ho := Lib.hid ho
      have Hb := Lib.hid hb
      clear ho hb
      by_cases hlt : k < n
      · have hkx : k < xs.length := by have := Hn.out; omega
        obtain ⟨b1, o1, hA, hb1, hc1⟩ := Hx1.out.place k hkx
        subst hA
        have hvk : vs.getD k 0 = abv (xs.getD k 0) := by rw [Hvs.out]; simp [hkx]
        have hX := Hxi.out.get k hkx
        generalize xs.getD k 0 = x at hc1 hvk hX
        have hy := abv_bd x hX
        have Htk : Hid (vs.take (k + 1) = vs.take k ++ [abv x]) := Lib.hid (by rw [take_snoc vs k (by rw [HvL.out]; exact hlt), hvk])
        have Htl : Hid ((vs.take k).length = k) := Lib.hid (by rw [List.length_take, HvL.out]; omega)
        have hgk := gcdl_le _ (Hsm.out.take k)
        have Hc1 := Lib.hid hc1
        have Hwa : Hid (wa.heap.size ≤ wr.heap.size) := Lib.hid Hb.out.size
        clear hvk hX hkx hc1
        obtain ⟨y, hyy⟩ : ∃ y, y = abv x := ⟨_, rfl⟩
        have cA : ∀ w, Calls Try.prog 20 #[.int .i64 x] w fun e w' => e = .returned (.int .i64 y) ∧ w = w' := by rw [hyy]; exact above_any x
        rw [← hyy] at Htk hy
        clear hyy
        have CA := Lib.hid cA
        clear cA
        have cell1 := (Hb.out.cell (p := ⟨b1, o1 + k, none⟩) hb1).trans Hc1.out
        go_wp2_with fail
        refine (CA.out _).mono ?_
        rintro e w' ⟨rfl, rfl⟩
        go_wp2_with (at_builtin; refine wpList_append_own_at _ rfl (.tmp 24) (.tmp 30) 30 rfl wa.heap.size 3 i0 (.int .i64 0) 1 8 Try.underlying30 hi hz0 hz1 hz2 rfl (by decide) u3 _ _ rfl (Ho.out.o1.alloc _) ⟨wr.heap.size, 0, none⟩ 1 1 [.int .i64 y] rfl rfl (cell_one_new _ _ _) (ints_oneCell .i64 [y]) (by rw [Htl.out]; unfold maxLen; omega) (by rw [Htl.out]; omega) (by have := Hwa.out; simp; omega) ?_; intro v1 w1 hown1 hgrow1 _ hat1; have Ho1 := Lib.hid (Ho.out.step _ hown1 hgrow1 hat1); have Hb1 := Lib.hid (Ho.out.below _ Hb.out Hwa.out hgrow1); have cell2 := (Hb1.out.cell (p := ⟨b1, o1 + k, none⟩) hb1).trans Hc1.out; clear hown1 hgrow1 hat1)
        clear cell1
        refine (CA.out _).mono ?_
        rintro e w' ⟨rfl, rfl⟩
        have Hwa1 : Hid (wa.heap.size ≤ w1.heap.size) := Lib.hid Hb1.out.size
        go_wp2_with (at_builtin; refine wpList_append_own_at _ rfl (.tmp 32) (.tmp 38) 30 rfl wa.heap.size 3 i0 (.int .i64 0) 1 8 Try.underlying30 hi hz0 hz1 hz2 rfl (by decide) u4 _ _ rfl (Ho1.out.o2.alloc _) ⟨w1.heap.size, 0, none⟩ 1 1 [.int .i64 y] rfl rfl (cell_one_new _ _ _) (ints_oneCell .i64 [y]) (by rw [Htl.out]; unfold maxLen; omega) (by rw [Htl.out]; omega) (by have := Hwa1.out; simp; omega) ?_; intro v2 w2 hown2 hgrow2 _ hat2; have Ho2 := Lib.hid (Ho1.out.swap.step _ hown2 hgrow2 hat2).swap; have Hb2 := Lib.hid (Ho1.out.swap.below _ Hb1.out Hwa1.out hgrow2); have cell3 := (Hb2.out.cell (p := ⟨b1, o1 + k, none⟩) hb1).trans Hc1.out; clear hown2 hgrow2 hat2)
        clear cell2
        refine (CA.out _).mono ?_
        rintro e w' ⟨rfl, rfl⟩
        go_wp2_with fail
        refine (rgcd_any _ _ _ (by omega) hy).mono ?_
        rintro e w' ⟨rfl, rfl⟩
        have Hgs : Hid (gcdl (vs.take (k + 1)) = Int.gcd (gcdl (vs.take k)) y) := Lib.hid (by rw [Htk.out, gcdl_snoc])
        go_wp2
        go_roundw
        case rel => exact ⟨k + 1, by omega, by go_num, by rw [Hgs.out], by rw [Htk.out]; exact Ho2.out, Hb2.out⟩
        case measure => simp [intOf]; omega
      · obtain rfl : k = n := by omega
        have hall : vs.take k = vs := List.take_of_length_le (by rw [HvL.out]; exact Nat.le_refl _)
        rw [hall] at Ho ⊢
        clear hall
        obtain ⟨pa, ca, hva, hra⟩ := own_reads Ho.out.o1
        obtain ⟨pb, cb, hvb, hrb⟩ := own_reads Ho.out.o2
        rw [HvL.out] at hva hvb
        subst hva hvb
        have Hra := Lib.hid hra
        have Hrb := Lib.hid hrb
        clear hra hrb Ho
        have hgl := gcdl_le _ Hsm.out
        have cN : ∀ w, Reads w pa vs → Calls Try.prog 25 #[.slice pa k ca] w fun e w' => e = .returned (.slice (some ⟨w.heap.size, 0, none⟩) k k) ∧ Row w' w.heap.size (norml vs) ∧ Below w.heap.size w w' := by
          intro w hr; have := norm_any pa ca vs w hr Hsm.out (by rw [HvL.out]; omega); rw [HvL.out] at this; exact this
        have cS : ∀ w, Reads w pa vs → Reads w pb vs → Calls Try.prog 26 #[.slice pa k ca, .slice pb k cb] w fun e w' => e = .returned (.bool true) ∧ ∃ n, w' = w.drewN n := by
          intro w h1 h2; have := same_any pa pb ca cb vs w h1 h2 (by rw [HvL.out]; omega); rw [HvL.out] at this; exact this
        have CN := Lib.hid cN
        have CS := Lib.hid cS
        clear cN cS
        obtain ⟨g, hg⟩ : ∃ g, g = gcdl vs := ⟨_, rfl⟩
        rw [← hg] at hgl ⊢
        have Hg := Lib.hid hg
        clear hg
        go_wp2_with fail
        refine (CN.out _ Hra.out).mono ?_
        rintro e wn ⟨rfl, hrow, hbn⟩
        have Hrow := Lib.hid hrow
        have Hbn := Lib.hid hbn
        have Hra2 := Lib.hid (Hra.out.below hbn)
        have Hrb2 := Lib.hid (Hrb.out.below hbn)
        clear hrow hbn
        obtain ⟨N, hN⟩ : ∃ N, N = wr.heap.size := ⟨_, rfl⟩
        rw [← hN] at Hrow ⊢
        clear hN
        go_wp2_with fail
        refine (CS.out _ Hra2.out Hrb2.out).mono ?_
        rintro e wm ⟨rfl, j0, rfl⟩
        go_wp2
        go_loopw [8, 9] (fun h i wr2 => ∃ j : Nat, j ≤ k ∧ i = .int .i64 j ∧ h = .int .i64 (gcdl ((norml vs).take j)) ∧ Hid (∃ m, wr2 = wn.drewN m))
          (fun _ i _ => k - (intOf i).toNat)
        case atStart => exact ⟨0, Nat.zero_le _, rfl, rfl, Lib.hid ⟨j0, rfl⟩⟩
        case round =>
          obtain ⟨j, hj, rfl, rfl, hw⟩ := hrel
          by_cases hjk : j < k
          · have hjv : j < vs.length := by rw [HvL.out]; exact hjk
            have hjn : j < (norml vs).length := by rw [norml_len]; exact hjv
            obtain ⟨b1, o1, hA, hb1, hc1⟩ := Hra2.out.place j hjv
            subst hA
            have hc2 := Hrow.out.cell j hjn
            have hcs : Small vs := Hsm.out
            have hxb := hcs.get j
            have hnb := (norml_small vs hcs).get j
            have hgj := gcdl_le _ ((norml_small vs hcs).take j)
            have Htk : Hid (gcdl ((norml vs).take (j + 1)) = Int.gcd (gcdl ((norml vs).take j)) ((norml vs).getD j 0)) := Lib.hid (by rw [take_snoc _ j hjn, gcdl_snoc])
            have hmul : 0 < g → (norml vs).getD j 0 * g = vs.getD j 0 := fun h => by rw [Hg.out] at h ⊢; exact norml_get vs j hjv h
            have hzer : g = 0 → (norml vs).getD j 0 = 0 := fun h => norml_zero vs (by rw [← Hg.out]; exact h) j
            generalize vs.getD j 0 = x at hc1 hxb hmul
            generalize (norml vs).getD j 0 = c at hc2 hnb Htk hmul hzer
            have hq1 : wr.cell? ⟨b1, o1 + j, none⟩ = some (.int .i64 x) := by obtain ⟨m, hm⟩ := hw.out; rw [hm]; exact hc1
            have hq2 : wr.cell? ⟨N, j, none⟩ = some (.int .i64 c) := by obtain ⟨m, hm⟩ := hw.out; rw [hm]; exact hc2
            obtain ⟨hx1, hx2⟩ := hxb
            obtain ⟨hn1, hn2⟩ := hnb
            clear hc1 hc2 hjv hjn hcs
            by_cases hg0 : g = 0
            · obtain rfl : c = 0 := hzer hg0
              have hgd : decide ((0 : Int) < (g : Int)) = false := by simp; omega
              have hgd2 : decide (0 < g) = false := by simp; omega
              have hge : ((g : Int) == 0) = true := by simp; omega
              clear hmul hzer hg0
              go_wp2
              go_quiet (fail)
              go_wp2_with fail
              refine (rgcd_any _ _ _ (by omega) (by omega)).mono ?_
              rintro e w' ⟨rfl, rfl⟩
              go_wp2
              go_roundw
              case rel => exact ⟨j + 1, by omega, by go_num, by rw [Htk.out]; simp, Lib.hid (by obtain ⟨m, hm⟩ := hw.out; exact drewN_of wn _ _ m _ hm rfl)⟩
              case measure => simp [intOf]; omega
            · have hm := hmul (by omega)
              have hp1 : -9223372036854775807 ≤ c * (g : Int) := by rw [hm]; exact hx1
              have hp2 : c * (g : Int) ≤ 9223372036854775807 := by rw [hm]; exact hx2
              have hne : (c * (g : Int) != x) = false := by rw [hm]; simp
              have hgd : decide ((0 : Int) < (g : Int)) = true := by simp; omega
              have hgd2 : decide (0 < g) = true := by simp; omega
              have hge : ((g : Int) == 0) = false := by simp; omega
              clear hmul hzer hm
              go_wp2
              go_quiet (fail)
              go_wp2_with fail
              refine (rgcd_any _ _ _ (by omega) (by omega)).mono ?_
              rintro e w' ⟨rfl, rfl⟩
              go_wp2
              go_roundw
              case rel => exact ⟨j + 1, by omega, by go_num, by rw [Htk.out], Lib.hid (by obtain ⟨m, hm⟩ := hw.out; exact drewN_of wn _ _ m _ hm rfl)⟩
              case measure => simp [intOf]; omega
          · obtain rfl : j = k := by omega
            have hfin : gcdl ((norml vs).take j) ≤ 1 := by
              rw [List.take_of_length_le (by rw [norml_len, HvL.out]; exact Nat.le_refl _)]
              exact gcdl_norml vs
            have hfin' : decide ((gcdl ((norml vs).take j) : Int) ≤ 1) = true := by simp; omega
            have HF := Lib.hid (HB.out.trans ((Hb.out.trans (Hbn.out.mono Hb.out.size)).mono HB.out.size))
            clear hfin
            go_wp2
            go_ret
            refine ⟨?_, by obtain ⟨m, hm⟩ := hw.out; rw [hm]; exact below_drewN HF.out m⟩
            first | rfl | simp [hfin']
  · go_enter Try.func7, Try.ntmps7
    go_wp2_with fail
    refine (awake1 _).mono ?_
    rintro e w1 ⟨rfl, hB⟩
    have HB := Lib.hid hB
    clear hB
    go_wp2_with fail
    refine (awake1 _).mono ?_
    rintro e w2 ⟨rfl, hB⟩
    go_wp2
    go_ret
    exact ⟨rfl, HB.out.trans (hB.mono HB.out.size)⟩

set_option maxRecDepth 100000 in
theorem lifted (os : Os) (started : os.Started) (H : Type) (enc : TypeId × Value → H) :
    ReturnsInHanded {} Try.checked os 7 .any (Rows.wholeNormsSpec.pre6 enc Try.prog Try.f7 Rows.wholeNormsRow.domain false) (Rows.wholeNormsSpec.post enc Try.prog Try.f7 false true false false) := by
  refine returnsInHanded_of_change (C := Try.checked) own started (by kernel_rfl) Try.func7
    (ChangeSpec.witness6 (enc := enc) (C := Try.checked) false ⟨#[], #[.slice none 0 0], []⟩ 8 (by kernel_rfl) (by kernel_rfl) (by kernel_rfl) (by kernel_rfl)) ?_
  intro W base args ds gs before hval0 hW hcnd _
  have hval : ∀ (j : Nat) t v, Try.f7.params[j]? = some t → args[j]? = some v → Value.okWide Try.prog W .any base t v := hval0
  have hW' := hW
  obtain ⟨p, q, hA0, hV, rfl, hfz, hnd⟩ := hW
  have hA : DataW.TrodAll enc Try.prog W 0 (fun _ => true) true Try.f7.params.toList args.toList ds p := hA0
  rw [Try.params7] at hA hval
  obtain ⟨v0, vs0, d0, ds0, p0, q0, hargs, rfl, rfl, h0, r0⟩ := trodAll_cons hA
  obtain ⟨rfl, rfl, rfl⟩ := trodAll_nil r0
  obtain rfl : args = #[v0] := by cases args; simp_all
  obtain ⟨rfl, rfl⟩ := trodVars_none hV
  obtain ⟨a0, len0, cap0, rfl⟩ := okWide_slice Try.underlying30 (hval 0 30 v0 rfl rfl)
  have k0 := h0
  have lt0 : ∀ x ∈ p0, x.block < W.heap.size := by obtain ⟨m, hm⟩ := k0; exact DataW.trod_lt m _ _ _ hm
  obtain ⟨z0, w0⟩ : ∃ zs, IsRow .i64 W a0 len0 cap0 zs := by
    obtain ⟨fuel, hf⟩ := h0
    rcases open_ints Try.underlying30 Try.underlying3 (by kernel_rfl) hf with ⟨hcs, _⟩ | ⟨x, l, c, zs, hcs, _, hl, hm, hz, _, hcell, hwz⟩
    · simp [Value.cells] at hcs
      obtain ⟨rfl, rfl, rfl⟩ := hcs
      exact ⟨[], .inl ⟨rfl, rfl, rfl, rfl⟩⟩
    · simp [Value.cells] at hcs
      obtain ⟨rfl, rfl, rfl⟩ := hcs
      exact ⟨zs, .inr ⟨_, rfl, hl, hm, by simpa using hz, hcell, hwz⟩⟩
  clear hA0 hval0
  refine (walk a0 len0 cap0 z0 W w0).mono fun e W' ⟨he, bel⟩ => ?_
  subst he
  exact ⟨_, rfl, _, _, _, [], _, [], hW', trodAll_mk1 (shut_bool Try.underlying4 _), (trodAll_cons_mk (Below.trod laidOut (by kernel_rfl) (of_decide_eq_true (by kernel_rfl)) k0 bel lt0) trodAll_mk0), rfl, bel.frame _, fun h => by cases h⟩

theorem over : Rows.wholeNormsRow.holds Try.pinned (OpenSpec.ofChange Rows.wholeNormsSpec) :=
  OpenClaim.holds_of_wide 7 Try.f7 rfl rfl rfl rfl rfl rfl rfl ⟨rfl, rfl, rfl, rfl, rfl⟩ rfl rfl rfl rfl rfl (by kernel_rfl) Try.func7 (by kernel_rfl)
    (of_decide_eq_true (by kernel_rfl)) (by unfold Func.isWrapper; first | (rw [if_pos (by decide +kernel)]; kernel_rfl) | (rw [if_neg (by decide +kernel)]; exact ⟨rfl, rfl⟩))
    (fun os started H enc _ => lifted os started H enc)

end Go.Proofs.Ytgombejncjcjhaa.wholeNorms

namespace Go.Proofs.Ytgombejncjcjhaa
theorem wholeNorms_holds : Rows.WholeNormsSaid := wholeNorms.over
#print axioms wholeNorms_holds
end Go.Proofs.Ytgombejncjcjhaa
