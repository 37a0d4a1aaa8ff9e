/-
  For every list of ints the law WholeSigns returns true: Norm of a vector with all signs turned is Norm of it turned, and Norm of what Norm gives is the same (the law looks at lists of up to 20, the least int lifted by one).
  Conditions: none; l is any slice of ints.
-/
import Derived.Test.YtgombejncjcjhaaSame
import Derived.Test.YtgombejncjcjhaaAwake
import Derived.ProofKit
import Derived.OpenShut
import Derived.ShutString
import Derived.ChangeOld
import Derived.Below
namespace Go.Proofs.Ytgombejncjcjhaa.wholeSigns
open Go.ChangeShapes Go.WideShapes Go.ChangeAt Go.RowKit
open Go.ChangeMaps (open_string shut_string)
set_option linter.unusedVariables false

theorem own : ownKnob Try.prog.godebug = none := by kernel_rfl
theorem laidOut : laidOutB Try.prog = true := by kernel_rfl

theorem walk (a0 : Option Addr) (len0 cap0 : Nat) (z0 : List Int) (w : World) (w0 : IsRow .i64 w a0 len0 cap0 z0) :
    Calls Try.prog 11 #[.slice a0 len0 cap0] w fun e w' => e = .returned (.bool true) ∧ Below w.heap.size w w' := by
  obtain ⟨i0, hi, hz0, hz1, hz2⟩ := info_parts Try.info3
  obtain ⟨xs, rfl, hx, hxi, hxm, hxc⟩ := w0.reads
  unfold maxLen at hxm
  clear w0 hxc z0
  have Hx := Lib.hid hx
  have Hxi := Lib.hid hxi
  clear hx hxi
  obtain ⟨n, hn⟩ : ∃ n, n = xs.length := ⟨_, rfl⟩
  rw [← hn] at hxm ⊢
  have Hn := Lib.hid hn
  clear hn
  by_cases hl : n ≤ 20
  · obtain ⟨vs, hvs⟩ : ∃ vs, vs = xs.map abv := ⟨_, rfl⟩
    have hsm : Small vs := by rw [hvs]; exact small_abv xs Hxi.out
    have Hvs := Lib.hid hvs
    have HvL : Hid (vs.length = n) := Lib.hid (by rw [hvs, Hn.out]; simp)
    have Hsm := Lib.hid hsm
    clear hvs hsm
    go_enter Try.func11, Try.ntmps11
    go_wp2_with fail
    refine (awake1 _).mono ?_
    rintro e wa ⟨rfl, hB⟩
    have Hx1 := Lib.hid (Hx.out.below hB)
    have HB := Lib.hid hB
    clear hB
    go_wp2
    go_loopw [3, 4, 5] (fun v u i wr => ∃ k : Nat, k ≤ n ∧ i = .int .i64 k ∧ Own2 wa.heap.size wr v u (vs.take k) ((vs.map (fun x => -x)).take k) ∧ Below wa.heap.size wa wr)
      (fun _ _ i _ => n - (intOf i).toNat)
    case atStart => exact ⟨0, Nat.zero_le _, rfl, Own2.start _ _, Below.refl _ _⟩
    case round =>
      obtain ⟨k, hk, rfl, ho, hb⟩ := hrel
      have Ho := Lib.hid ho
      have Hb := Lib.hid hb
      clear ho hb
      by_cases hlt : k < n
      · have hkx : k < xs.length := by have := Hn.out; omega
        obtain ⟨b1, o1, hA, hb1, hc1⟩ := Hx1.out.place k hkx
        subst hA
        have hvk : vs.getD k 0 = abv (xs.getD k 0) := by rw [Hvs.out]; simp [hkx]
        have hX := Hxi.out.get k hkx
        generalize xs.getD k 0 = x at hc1 hvk hX
        have hy := abv_bd x hX
        have Htk : Hid (vs.take (k + 1) = vs.take k ++ [abv x]) := Lib.hid (by rw [take_snoc vs k (by rw [HvL.out]; exact hlt), hvk])
        have Htl : Hid ((vs.take k).length = k) := Lib.hid (by rw [List.length_take, HvL.out]; omega)
        have Htm : Hid ((vs.map (fun x => -x)).take (k + 1) = (vs.map (fun x => -x)).take k ++ [-abv x]) := Lib.hid (by rw [take_snoc _ k (by rw [List.length_map, HvL.out]; exact hlt)]; have hkv : k < vs.length := by { rw [HvL.out]; exact hlt }; rw [← hvk]; simp [hkv])
        have Htn : Hid (((vs.map (fun x => -x)).take k).length = k) := Lib.hid (by rw [List.length_take, List.length_map, HvL.out]; omega)
        have Hc1 := Lib.hid hc1
        have Hwa : Hid (wa.heap.size ≤ wr.heap.size) := Lib.hid Hb.out.size
        clear hvk hX hkx hc1
        obtain ⟨y, hyy⟩ : ∃ y, y = abv x := ⟨_, rfl⟩
        have cA : ∀ w, Calls Try.prog 20 #[.int .i64 x] w fun e w' => e = .returned (.int .i64 y) ∧ w = w' := by rw [hyy]; exact above_any x
        rw [← hyy] at Htk Htm hy
        clear hyy
        have CA := Lib.hid cA
        clear cA
        have cell1 := (Hb.out.cell (p := ⟨b1, o1 + k, none⟩) hb1).trans Hc1.out
        go_wp2_with fail
        refine (CA.out _).mono ?_
        rintro e w' ⟨rfl, rfl⟩
        go_wp2_with (at_builtin; refine wpList_append_own_at _ rfl (.tmp 23) (.tmp 29) 30 rfl wa.heap.size 3 i0 (.int .i64 0) 1 8 Try.underlying30 hi hz0 hz1 hz2 rfl (by decide) u3 _ _ rfl (Ho.out.o1.alloc _) ⟨wr.heap.size, 0, none⟩ 1 1 [.int .i64 y] rfl rfl (cell_one_new _ _ _) (ints_oneCell .i64 [y]) (by rw [Htl.out]; unfold maxLen; omega) (by rw [Htl.out]; omega) (by have := Hwa.out; simp; omega) ?_; intro v1 w1 hown1 hgrow1 _ hat1; have Ho1 := Lib.hid (Ho.out.step _ hown1 hgrow1 hat1); have Hb1 := Lib.hid (Ho.out.below _ Hb.out Hwa.out hgrow1); have cell2 := (Hb1.out.cell (p := ⟨b1, o1 + k, none⟩) hb1).trans Hc1.out; clear hown1 hgrow1 hat1)
        clear cell1
        refine (CA.out _).mono ?_
        rintro e w' ⟨rfl, rfl⟩
        have Hwa1 : Hid (wa.heap.size ≤ w1.heap.size) := Lib.hid Hb1.out.size
        go_wp2_with (at_builtin; refine wpList_append_own_at _ rfl (.tmp 31) (.tmp 38) 30 rfl wa.heap.size 3 i0 (.int .i64 0) 1 8 Try.underlying30 hi hz0 hz1 hz2 rfl (by decide) u4 _ _ rfl (Ho1.out.o2.alloc _) ⟨w1.heap.size, 0, none⟩ 1 1 [.int .i64 (-y)] rfl rfl (cell_one_new _ _ _) (ints_oneCell .i64 [-y]) (by rw [Htn.out]; unfold maxLen; omega) (by rw [Htn.out]; omega) (by have := Hwa1.out; simp; omega) ?_; intro v2 w2 hown2 hgrow2 _ hat2; have Ho2 := Lib.hid (Ho1.out.swap.step _ hown2 hgrow2 hat2).swap; have Hb2 := Lib.hid (Ho1.out.swap.below _ Hb1.out Hwa1.out hgrow2); clear hown2 hgrow2 hat2)
        clear cell2
        go_roundw
        case rel => exact ⟨k + 1, by omega, by go_num, by rw [Htk.out, Htm.out]; exact Ho2.out, Hb2.out⟩
        case measure => simp [intOf]; omega
      · obtain rfl : k = n := by omega
        have hall : vs.take k = vs := List.take_of_length_le (by rw [HvL.out]; exact Nat.le_refl _)
        have hall2 : (vs.map (fun x => -x)).take k = vs.map (fun x => -x) := List.take_of_length_le (by rw [List.length_map, HvL.out]; exact Nat.le_refl _)
        rw [hall, hall2] at Ho
        clear hall hall2
        obtain ⟨pa, ca, hva, hra⟩ := own_reads Ho.out.o1
        obtain ⟨pb, cb, hvb, hrb⟩ := own_reads Ho.out.o2
        rw [List.length_map] at hvb
        rw [HvL.out] at hva hvb
        subst hva hvb
        have Hra := Lib.hid hra
        have Hrb := Lib.hid hrb
        clear hra hrb Ho
        have cN : ∀ w, Reads w pa vs → Calls Try.prog 25 #[.slice pa k ca] w fun e w' => e = .returned (.slice (some ⟨w.heap.size, 0, none⟩) k k) ∧ Row w' w.heap.size (norml vs) ∧ Below w.heap.size w w' := by
          intro w hr; have := norm_any pa ca vs w hr Hsm.out (by rw [HvL.out]; omega); rw [HvL.out] at this; exact this
        have cM : ∀ w, Reads w pb (vs.map (fun x => -x)) → Calls Try.prog 25 #[.slice pb k cb] w fun e w' => e = .returned (.slice (some ⟨w.heap.size, 0, none⟩) k k) ∧ Row w' w.heap.size ((norml vs).map (fun x => -x)) ∧ Below w.heap.size w w' := by
          intro w hr; have := norm_any pb cb (vs.map (fun x => -x)) w hr Hsm.out.neg (by rw [List.length_map, HvL.out]; omega); rw [List.length_map, HvL.out, norml_neg] at this; exact this
        have cA : ∀ w N, Row w N (norml vs) → Calls Try.prog 25 #[.slice (some ⟨N, 0, none⟩) k k] w fun e w' => e = .returned (.slice (some ⟨w.heap.size, 0, none⟩) k k) ∧ Row w' w.heap.size (norml vs) ∧ Below w.heap.size w w' := by
          intro w N hr; have := norm_any (some ⟨N, 0, none⟩) k (norml vs) w hr.reads (norml_small vs Hsm.out) (by rw [norml_len, HvL.out]; omega); rw [norml_len, HvL.out, norml_norml] at this; exact this
        have cS : ∀ w N M, Row w N (norml vs) → Row w M (norml vs) → Calls Try.prog 26 #[.slice (some ⟨M, 0, none⟩) k k, .slice (some ⟨N, 0, none⟩) k k] w fun e w' => e = .returned (.bool true) ∧ ∃ n, w' = w.drewN n := by
          intro w N M h1 h2; have := same_any (some ⟨M, 0, none⟩) (some ⟨N, 0, none⟩) k k (norml vs) w h2.reads h1.reads (by rw [norml_len, HvL.out]; omega); rw [norml_len, HvL.out] at this; exact this
        have CN := Lib.hid cN
        have CM := Lib.hid cM
        have CA := Lib.hid cA
        have CS := Lib.hid cS
        clear cN cM cA cS
        go_wp2_with fail
        refine (CN.out _ Hra.out).mono ?_
        rintro e wn ⟨rfl, hrow, hbn⟩
        have Hrow := Lib.hid hrow
        have Hbn := Lib.hid hbn
        have Hrb2 := Lib.hid (Hrb.out.below hbn)
        clear hrow hbn
        obtain ⟨N, hN⟩ : ∃ N, N = wr.heap.size := ⟨_, rfl⟩
        have HN := Lib.hid hN
        rw [← hN] at Hrow ⊢
        clear hN
        go_wp2_with fail
        refine (CM.out _ Hrb2.out).mono ?_
        rintro e wm ⟨rfl, hrow, hbm⟩
        have Hrow2 := Lib.hid hrow
        have Hrow1 := Lib.hid (Hrow.out.below hbm Hrow.out.lt)
        have Hbm := Lib.hid hbm
        clear hrow hbm
        obtain ⟨M, hM⟩ : ∃ M, M = wn.heap.size := ⟨_, rfl⟩
        rw [← hM] at Hrow2 ⊢
        clear hM
        have HF := Lib.hid (HB.out.trans ((Hb.out.trans ((Hbn.out.trans (Hbm.out.mono Hbn.out.size)).mono Hb.out.size)).mono HB.out.size))
        go_wp2
        go_loopw [8] (fun i wr2 => ∃ j : Nat, j ≤ k ∧ i = .int .i64 j ∧ Hid (∃ m, wr2 = wm.drewN m))
          (fun i _ => k - (intOf i).toNat)
        case atStart => exact ⟨0, Nat.zero_le _, rfl, Lib.hid ⟨0, rfl⟩⟩
        case round =>
          obtain ⟨j, hj, rfl, hw⟩ := hrel
          by_cases hjk : j < k
          · have hjn : j < (norml vs).length := by rw [norml_len, HvL.out]; exact hjk
            have hc1 := Hrow1.out.cell j hjn
            have hc2 := Hrow2.out.cell j (by rw [List.length_map]; exact hjn)
            have hneg : ((norml vs).map (fun x => -x)).getD j 0 = -(norml vs).getD j 0 := by simp [hjn]
            rw [hneg] at hc2
            have hnb := (norml_small vs Hsm.out).get j
            generalize (norml vs).getD j 0 = c at hc1 hc2 hnb
            have hq1 : wr.cell? ⟨N, j, none⟩ = some (.int .i64 c) := by obtain ⟨m, hm⟩ := hw.out; rw [hm]; exact hc1
            have hq2 : wr.cell? ⟨M, j, none⟩ = some (.int .i64 (-c)) := by obtain ⟨m, hm⟩ := hw.out; rw [hm]; exact hc2
            obtain ⟨hn1, hn2⟩ := hnb
            clear hc1 hc2 hjn hneg
            go_wp2
            go_quiet (fail)
            go_wp2
            go_roundw
            case rel => exact ⟨j + 1, by omega, by go_num, Lib.hid (by obtain ⟨m, hm⟩ := hw.out; exact drewN_of wm _ _ m _ hm rfl)⟩
            case measure => simp [intOf]; omega
          · have hR1 : Row wr N (norml vs) := by obtain ⟨m, hm⟩ := hw.out; rw [hm]; exact Hrow1.out.drewN m
            have HR1 := Lib.hid hR1
            have HW : Hid (Below w.heap.size w wr) := Lib.hid (by obtain ⟨m, hm⟩ := hw.out; rw [hm]; exact below_drewN HF.out m)
            clear hR1
            go_wp2_with fail
            refine (CA.out _ N HR1.out).mono ?_
            rintro e wz ⟨rfl, hrow, hbz⟩
            have Hz1 := Lib.hid (HR1.out.below hbz HR1.out.lt)
            have Hz2 := Lib.hid hrow
            have HW2 := Lib.hid (HW.out.trans (hbz.mono HW.out.size))
            clear hrow hbz
            go_wp2_with fail
            refine (CS.out _ N _ Hz1.out Hz2.out).mono ?_
            rintro e wy ⟨rfl, m, rfl⟩
            go_wp2
            go_ret
            exact ⟨rfl, below_drewN HW2.out m⟩
  · go_enter Try.func11, Try.ntmps11
    go_wp2_with fail
    refine (awake1 _).mono ?_
    rintro e w1 ⟨rfl, hB⟩
    have HB := Lib.hid hB
    clear hB
    go_wp2_with fail
    refine (awake1 _).mono ?_
    rintro e w2 ⟨rfl, hB⟩
    go_wp2
    go_ret
    exact ⟨rfl, HB.out.trans (hB.mono HB.out.size)⟩

set_option maxRecDepth 100000 in
theorem lifted (os : Os) (started : os.Started) (H : Type) (enc : TypeId × Value → H) :
    ReturnsInHanded {} Try.checked os 11 .any (Rows.wholeSignsSpec.pre6 enc Try.prog Try.f11 Rows.wholeSignsRow.domain false) (Rows.wholeSignsSpec.post enc Try.prog Try.f11 false true false false) := by
  refine returnsInHanded_of_change (C := Try.checked) own started (by kernel_rfl) Try.func11
    (ChangeSpec.witness6 (enc := enc) (C := Try.checked) false ⟨#[], #[.slice none 0 0], []⟩ 8 (by kernel_rfl) (by kernel_rfl) (by kernel_rfl) (by kernel_rfl)) ?_
  intro W base args ds gs before hval0 hW hcnd _
  have hval : ∀ (j : Nat) t v, Try.f11.params[j]? = some t → args[j]? = some v → Value.okWide Try.prog W .any base t v := hval0
  have hW' := hW
  obtain ⟨p, q, hA0, hV, rfl, hfz, hnd⟩ := hW
  have hA : DataW.TrodAll enc Try.prog W 0 (fun _ => true) true Try.f11.params.toList args.toList ds p := hA0
  rw [Try.params11] at hA hval
  obtain ⟨v0, vs0, d0, ds0, p0, q0, hargs, rfl, rfl, h0, r0⟩ := trodAll_cons hA
  obtain ⟨rfl, rfl, rfl⟩ := trodAll_nil r0
  obtain rfl : args = #[v0] := by cases args; simp_all
  obtain ⟨rfl, rfl⟩ := trodVars_none hV
  obtain ⟨a0, len0, cap0, rfl⟩ := okWide_slice Try.underlying30 (hval 0 30 v0 rfl rfl)
  have k0 := h0
  have lt0 : ∀ x ∈ p0, x.block < W.heap.size := by obtain ⟨m, hm⟩ := k0; exact DataW.trod_lt m _ _ _ hm
  obtain ⟨z0, w0⟩ : ∃ zs, IsRow .i64 W a0 len0 cap0 zs := by
    obtain ⟨fuel, hf⟩ := h0
    rcases open_ints Try.underlying30 Try.underlying3 (by kernel_rfl) hf with ⟨hcs, _⟩ | ⟨x, l, c, zs, hcs, _, hl, hm, hz, _, hcell, hwz⟩
    · simp [Value.cells] at hcs
      obtain ⟨rfl, rfl, rfl⟩ := hcs
      exact ⟨[], .inl ⟨rfl, rfl, rfl, rfl⟩⟩
    · simp [Value.cells] at hcs
      obtain ⟨rfl, rfl, rfl⟩ := hcs
      exact ⟨zs, .inr ⟨_, rfl, hl, hm, by simpa using hz, hcell, hwz⟩⟩
  clear hA0 hval0
  refine (walk a0 len0 cap0 z0 W w0).mono fun e W' ⟨he, bel⟩ => ?_
  subst he
  exact ⟨_, rfl, _, _, _, [], _, [], hW', trodAll_mk1 (shut_bool Try.underlying4 _), (trodAll_cons_mk (Below.trod laidOut (by kernel_rfl) (of_decide_eq_true (by kernel_rfl)) k0 bel lt0) trodAll_mk0), rfl, bel.frame _, fun h => by cases h⟩

theorem over : Rows.wholeSignsRow.holds Try.pinned (OpenSpec.ofChange Rows.wholeSignsSpec) :=
  OpenClaim.holds_of_wide 11 Try.f11 rfl rfl rfl rfl rfl rfl rfl ⟨rfl, rfl, rfl, rfl, rfl⟩ rfl rfl rfl rfl rfl (by kernel_rfl) Try.func11 (by kernel_rfl)
    (of_decide_eq_true (by kernel_rfl)) (by unfold Func.isWrapper; first | (rw [if_pos (by decide +kernel)]; kernel_rfl) | (rw [if_neg (by decide +kernel)]; exact ⟨rfl, rfl⟩))
    (fun os started H enc _ => lifted os started H enc)

end Go.Proofs.Ytgombejncjcjhaa.wholeSigns

namespace Go.Proofs.Ytgombejncjcjhaa
theorem wholeSigns_holds : Rows.WholeSignsSaid := wholeSigns.over
#print axioms wholeSigns_holds
end Go.Proofs.Ytgombejncjcjhaa
