/-
  For all ints a and b and all lists of ints x and y the law WholeMixes returns true: Mix gives a times x plus b times y, element by element, or says that an element is no int or the smallest int, as the document's own Dot tells (the law looks at x of up to 20 and y as long at least, up to 40).
  Conditions: none; a and b are any ints, x and y any slices of ints.
-/
import Derived.Test.YtgombejncjcjhaaMix
import Derived.Test.YtgombejncjcjhaaAwake
import Derived.ProofKit
import Derived.OpenShut
import Derived.ShutString
import Derived.ChangeOld
import Derived.Below
namespace Go.Proofs.Ytgombejncjcjhaa.wholeMixes
open Go.ChangeShapes Go.WideShapes Go.ChangeAt Go.RowKit
open Go.ChangeMaps (open_string shut_string)
set_option linter.unusedVariables false

theorem own : ownKnob Try.prog.godebug = none := by kernel_rfl
theorem laidOut : laidOutB Try.prog = true := by kernel_rfl

set_option maxHeartbeats 4000000 in
theorem walk (a0 : Int) (a1 : Int) (a2 : Option Addr) (len2 cap2 : Nat) (z2 : List Int) (a3 : Option Addr) (len3 cap3 : Nat) (z3 : List Int) (w : World) (w0 : (Lit.int .i64 a0).wf = true) (w1 : (Lit.int .i64 a1).wf = true) (w2 : IsRow .i64 w a2 len2 cap2 z2) (w3 : IsRow .i64 w a3 len3 cap3 z3) :
    Calls Try.prog 8 #[.int .i64 a0, .int .i64 a1, .slice a2 len2 cap2, .slice a3 len3 cap3] w fun e w' => e = .returned (.bool true) ∧ Below w.heap.size w w' := by
  have ha := Lib.hid (bounds_i64 w0)
  have hb := Lib.hid (bounds_i64 w1)
  obtain ⟨xs, rfl, hx, hxi, hxm, hxc⟩ := w2.reads
  obtain ⟨ys, rfl, hy, hyi, hym, hyc⟩ := w3.reads
  unfold maxLen at hxm hym
  clear w0 w1 w2 w3 z2 z3 hxc
  have Hx := Lib.hid hx
  have Hxi := Lib.hid hxi
  have Hy := Lib.hid hy
  have Hyi := Lib.hid hyi
  clear hx hxi hy hyi
  by_cases hl : xs.length ≤ 20 ∧ xs.length ≤ ys.length ∧ ys.length ≤ 40
  · obtain ⟨hl1, hl2, hl3⟩ := hl
    have Hy1 : Hid (Reads w a3 (ys.take xs.length)) := Lib.hid (Hy.out.take _)
    have Hyi1 : Hid (Ints (ys.take xs.length)) := Lib.hid (fun z hz => Hyi.out z (List.mem_of_mem_take hz))
    have Hl : Hid ((ys.take xs.length).length = xs.length) := Lib.hid (by rw [List.length_take]; omega)
    obtain ⟨zs, hzs⟩ : ∃ zs, zs = ys.take xs.length := ⟨_, rfl⟩
    rw [← hzs] at Hy1 Hyi1 Hl
    clear hzs
    obtain ⟨m, hm⟩ : ∃ m, m = ys.length := ⟨_, rfl⟩
    rw [← hm] at hym hyc hl2 hl3 ⊢
    clear hm Hy Hyi
    obtain ⟨n, hn⟩ : ∃ n, n = xs.length := ⟨_, rfl⟩
    have cM : ∀ w, Reads w a2 xs → Reads w a3 zs → Calls Try.prog 27 #[.int .i64 a0, .slice a2 n cap2, .int .i64 a1, .slice a3 n cap3] w (MixPost w.heap.size w a0 a1 xs zs) := by
      intro w h1 h2; rw [hn]; exact mix_any a0 a1 a2 a3 cap2 cap3 xs zs w h1 h2 Hxi.out Hyi1.out ha.out hb.out Hl.out (by omega)
    have CM := Lib.hid cM
    rw [← hn] at hxm hl1 hl2 ⊢
    have Hn := Lib.hid hn
    clear hn cM
    go_enter Try.func8, Try.ntmps8
    go_wp2_with fail
    refine (awake1 _).mono ?_
    rintro e wa ⟨rfl, hB⟩
    have Hx1 := Lib.hid (Hx.out.below hB)
    have Hy2 := Lib.hid (Hy1.out.below hB)
    have HB := Lib.hid hB
    clear hB
    go_wp2_with fail
    refine (CM.out _ Hx1.out Hy2.out).mono ?_
    rintro e wm ⟨hbm, hpost⟩
    have Hbm := Lib.hid hbm
    clear hbm
    rcases hpost with ⟨cs, g, hcl, hall, rfl, hrow⟩ | ⟨⟨jb, hjb, hbad⟩, rfl⟩
    · have Hcl := Lib.hid hcl
      have Hall := Lib.hid hall
      have Hrow := Lib.hid hrow
      clear hcl hall hrow
      rw [← Hn.out]
      go_wp2
      go_loopw [11] (fun i wr => ∃ k : Nat, k ≤ n ∧ i = .int .i64 k ∧ Row wr g cs ∧ Below wa.heap.size wa wr)
        (fun i _ => n - (intOf i).toNat)
      case atStart => exact ⟨0, Nat.zero_le _, rfl, Hrow.out, Hbm.out⟩
      case round =>
        obtain ⟨k, hk, rfl, hrw, hbel⟩ := hrel
        have Hrw := Lib.hid hrw
        have Hbel := Lib.hid hbel
        clear hrw hbel
        by_cases hlt : k < n
        · have hkx : k < xs.length := by have := Hn.out; omega
          have hky : k < zs.length := by rw [Hl.out]; exact hkx
          obtain ⟨b1, o1, hA1, hb1, hc1⟩ := Hx1.out.place k hkx
          obtain ⟨b2, o2, hA2, hb2, hc2⟩ := Hy2.out.place k hky
          subst hA1 hA2
          have hc1 := Reads.cellIn hb1 hc1 Hbel.out
          have hc2 := Reads.cellIn hb2 hc2 Hbel.out
          have hX := Lib.hid (Hxi.out.get k hkx)
          have hY := Lib.hid (Hyi1.out.get k hky)
          obtain ⟨x, hx⟩ : ∃ x, x = xs.getD k 0 := ⟨_, rfl⟩
          obtain ⟨y, hy⟩ : ∃ y, y = zs.getD k 0 := ⟨_, rfl⟩
          rw [← hx] at hc1 hX
          rw [← hy] at hc2 hY
          have Hxk := Lib.hid hx
          have Hyk := Lib.hid hy
          have hsz := Hbel.out.size
          have hw1 : b1 < wr.heap.size := by omega
          have hw2 : b2 < wr.heap.size := by omega
          clear hx hy hky hsz hb1 hb2
          obtain ⟨r, hr⟩ : ∃ r, dots 0 [a0, a1] [x, y] = r := ⟨_, rfl⟩
          have D1 := Lib.hid (rdot1 wr a0 a1 x y ha.out hb.out hX.out hY.out r hr)
          have D2 := Lib.hid (rdot2 wr a0 a1 x y ha.out hb.out hX.out hY.out r hr)
          have hmx := Hall.out k hkx
          rw [← Hxk.out, ← Hyk.out] at hmx
          have hgk : k < cs.length := by rw [Hcl.out]; exact hkx
          obtain ⟨c, hc⟩ : ∃ c, cs.getD k 0 = c := ⟨_, rfl⟩
          have hcc := Lib.hid hc
          rw [hc] at hmx
          clear hc
          obtain ⟨hr2, hne⟩ := mixAt_some hmx
          rw [hr2] at hr
          subst hr
          have hneb : (c == -9223372036854775808) = false := by rw [beq_eq_false_iff_ne]; exact hne
          clear hmx hr2 hkx hne
          simp only [dotV] at D1 D2
          go_wp2
          go_region_held3 (fun w' => w'.cell? ⟨b1, o1 + k, none⟩ = some (.int .i64 x) ∧ w'.cell? ⟨b2, o2 + k, none⟩ = some (.int .i64 y))
            (first
              | exact ⟨k1, k2⟩
              | go_keep)
            (first
              | (go_at_call 24; ((with_reducible refine D1.out.mono ?_); rintro e w' ⟨rfl, hbw⟩; have k1 := (hbw.cell (p := ⟨b1, o1 + k, none⟩) hw1).trans hc1; have k2 := (hbw.cell (p := ⟨b2, o2 + k, none⟩) hw2).trans hc2))
              | (go_at_call 24; ((with_reducible refine D2.out.mono ?_); rintro e w' ⟨rfl, hbw⟩; have k1 := (hbw.cell (p := ⟨b1, o1 + k, none⟩) hw1).trans hc1; have k2 := (hbw.cell (p := ⟨b2, o2 + k, none⟩) hw2).trans hc2)))
          all_goals
            have hR := Hrw.out.below hbw Hrw.out.lt
            have hcell := hR.cell k hgk
            rw [hcc.out] at hcell
            have HR := Lib.hid hR
            have HF := Lib.hid (Hbel.out.trans (hbw.mono Hbel.out.size))
            clear hbw hR k1 k2
            go_wp2
            go_roundw
            case rel => exact ⟨k + 1, by omega, by go_num, HR.out, HF.out⟩
            case measure => simp [intOf]; omega
        · go_wp2
          go_ret
          exact ⟨rfl, HB.out.trans (Hbel.out.mono HB.out.size)⟩
    · have hjn : jb < n := by have := Hn.out; omega
      have Hbad := Lib.hid hbad
      clear hbad hjb
      go_wp2
      go_loopw [11] (fun i wr => ∃ k : Nat, k ≤ jb ∧ i = .int .i64 k ∧ Below wa.heap.size wa wr)
        (fun i _ => n - (intOf i).toNat)
      case atStart => exact ⟨0, Nat.zero_le _, rfl, Hbm.out⟩
      case round =>
        obtain ⟨k, hk, rfl, hbel⟩ := hrel
        have Hbel := Lib.hid hbel
        clear hbel
        have hlt : k < n := by omega
        have hkx : k < xs.length := by have := Hn.out; omega
        have hky : k < zs.length := by rw [Hl.out]; exact hkx
        obtain ⟨b1, o1, hA1, hb1, hc1⟩ := Hx1.out.place k hkx
        obtain ⟨b2, o2, hA2, hb2, hc2⟩ := Hy2.out.place k hky
        subst hA1 hA2
        have hc1 := Reads.cellIn hb1 hc1 Hbel.out
        have hc2 := Reads.cellIn hb2 hc2 Hbel.out
        have hX := Lib.hid (Hxi.out.get k hkx)
        have hY := Lib.hid (Hyi1.out.get k hky)
        obtain ⟨x, hx⟩ : ∃ x, x = xs.getD k 0 := ⟨_, rfl⟩
        obtain ⟨y, hy⟩ : ∃ y, y = zs.getD k 0 := ⟨_, rfl⟩
        rw [← hx] at hc1 hX
        rw [← hy] at hc2 hY
        have Hxk := Lib.hid hx
        have Hyk := Lib.hid hy
        have hsz := Hbel.out.size
        have hw1 : b1 < wr.heap.size := by omega
        have hw2 : b2 < wr.heap.size := by omega
        clear hx hy hky hsz hb1 hb2
        obtain ⟨r, hr⟩ : ∃ r, dots 0 [a0, a1] [x, y] = r := ⟨_, rfl⟩
        have D1 := Lib.hid (rdot1 wr a0 a1 x y ha.out hb.out hX.out hY.out r hr)
        have D2 := Lib.hid (rdot2 wr a0 a1 x y ha.out hb.out hX.out hY.out r hr)
        obtain ⟨mk, hmk⟩ : ∃ mk, mixAt a0 a1 x y = mk := ⟨_, rfl⟩
        have Hmk : Hid (k = jb → mk = none) := Lib.hid (by intro h; subst h; rw [← hmk, Hxk.out, Hyk.out]; exact Hbad.out)
        cases mk with
        | some c =>
          obtain ⟨hr2, hne⟩ := mixAt_some hmk
          rw [hr2] at hr
          subst hr
          have hneb : (c == -9223372036854775808) = false := by rw [beq_eq_false_iff_ne]; exact hne
          have hkj : k < jb := by
            rcases Nat.lt_or_ge k jb with h | h
            · exact h
            · have := Hmk.out (by omega); cases this
          clear hmk hr2 hkx hne
          simp only [dotV] at D1 D2
          go_wp2
          go_region_held3 (fun w' => w'.cell? ⟨b1, o1 + k, none⟩ = some (.int .i64 x) ∧ w'.cell? ⟨b2, o2 + k, none⟩ = some (.int .i64 y))
            (first
              | exact ⟨k1, k2⟩
              | go_keep)
            (first
              | (go_at_call 24; ((with_reducible refine D1.out.mono ?_); rintro e w' ⟨rfl, hbw⟩; have k1 := (hbw.cell (p := ⟨b1, o1 + k, none⟩) hw1).trans hc1; have k2 := (hbw.cell (p := ⟨b2, o2 + k, none⟩) hw2).trans hc2))
              | (go_at_call 24; ((with_reducible refine D2.out.mono ?_); rintro e w' ⟨rfl, hbw⟩; have k1 := (hbw.cell (p := ⟨b1, o1 + k, none⟩) hw1).trans hc1; have k2 := (hbw.cell (p := ⟨b2, o2 + k, none⟩) hw2).trans hc2)))
          all_goals
            have HF := Lib.hid (Hbel.out.trans (hbw.mono Hbel.out.size))
            clear hbw k1 k2
            go_wp2
            go_roundw
            case rel => exact ⟨k + 1, by omega, by go_num, HF.out⟩
            case measure => simp [intOf]; omega
        | none =>
          rcases mixAt_none hmk with hr2 | hr2
          · rw [hr2] at hr
            subst hr
            clear hmk hr2 hkx
            simp only [dotV] at D1 D2
            go_wp2
            go_region_held3 (fun w' => w'.cell? ⟨b1, o1 + k, none⟩ = some (.int .i64 x) ∧ w'.cell? ⟨b2, o2 + k, none⟩ = some (.int .i64 y))
              (first
                | exact ⟨k1, k2⟩
                | go_keep)
              (first
                | (go_at_call 24; ((with_reducible refine D1.out.mono ?_); rintro e w' ⟨rfl, hbw⟩; have k1 := (hbw.cell (p := ⟨b1, o1 + k, none⟩) hw1).trans hc1; have k2 := (hbw.cell (p := ⟨b2, o2 + k, none⟩) hw2).trans hc2))
                | (go_at_call 24; ((with_reducible refine D2.out.mono ?_); rintro e w' ⟨rfl, hbw⟩; have k1 := (hbw.cell (p := ⟨b1, o1 + k, none⟩) hw1).trans hc1; have k2 := (hbw.cell (p := ⟨b2, o2 + k, none⟩) hw2).trans hc2)))
            all_goals
              have HF := Lib.hid (Hbel.out.trans (hbw.mono Hbel.out.size))
              clear hbw k1 k2
              go_wp2
              go_ret
              exact ⟨rfl, HB.out.trans (HF.out.mono HB.out.size)⟩
          · rw [hr2] at hr
            subst hr
            clear hmk hr2 hkx
            simp only [dotV] at D1 D2
            go_wp2
            go_region_held3 (fun w' => w'.cell? ⟨b1, o1 + k, none⟩ = some (.int .i64 x) ∧ w'.cell? ⟨b2, o2 + k, none⟩ = some (.int .i64 y))
              (first
                | exact ⟨k1, k2⟩
                | go_keep)
              (first
                | (go_at_call 24; ((with_reducible refine D1.out.mono ?_); rintro e w' ⟨rfl, hbw⟩; have k1 := (hbw.cell (p := ⟨b1, o1 + k, none⟩) hw1).trans hc1; have k2 := (hbw.cell (p := ⟨b2, o2 + k, none⟩) hw2).trans hc2))
                | (go_at_call 24; ((with_reducible refine D2.out.mono ?_); rintro e w' ⟨rfl, hbw⟩; have k1 := (hbw.cell (p := ⟨b1, o1 + k, none⟩) hw1).trans hc1; have k2 := (hbw.cell (p := ⟨b2, o2 + k, none⟩) hw2).trans hc2)))
            all_goals
              have HF := Lib.hid (Hbel.out.trans (hbw.mono Hbel.out.size))
              clear hbw k1 k2
              go_wp2
              go_ret
              exact ⟨rfl, HB.out.trans (HF.out.mono HB.out.size)⟩
  · have hl' : 20 < xs.length ∨ (xs.length ≤ 20 ∧ ys.length < xs.length) ∨ (xs.length ≤ 20 ∧ xs.length ≤ ys.length ∧ 40 < ys.length) := by omega
    clear hl
    rcases hl' with hl1 | ⟨hl1, hl2⟩ | ⟨hl1, hl2, hl3⟩
    all_goals
      go_enter Try.func8, Try.ntmps8
      go_wp2_with fail
      refine (awake1 _).mono ?_
      rintro e w1 ⟨rfl, hB⟩
      have HB := Lib.hid hB
      clear hB
      go_wp2_with fail
      refine (awake1 _).mono ?_
      rintro e w2 ⟨rfl, hB⟩
      go_wp2
      go_ret
      exact ⟨rfl, HB.out.trans (hB.mono HB.out.size)⟩

set_option maxRecDepth 100000 in
theorem lifted (os : Os) (started : os.Started) (H : Type) (enc : TypeId × Value → H) :
    ReturnsInHanded {} Try.checked os 8 .any (Rows.wholeMixesSpec.pre6 enc Try.prog Try.f8 Rows.wholeMixesRow.domain false) (Rows.wholeMixesSpec.post enc Try.prog Try.f8 false true false false) := by
  refine returnsInHanded_of_change (C := Try.checked) own started (by kernel_rfl) Try.func8
    (ChangeSpec.witness6 (enc := enc) (C := Try.checked) false ⟨#[], #[.int .i64 0, .int .i64 0, .slice none 0 0, .slice none 0 0], []⟩ 8 (by kernel_rfl) (by kernel_rfl) (by kernel_rfl) (by kernel_rfl)) ?_
  intro W base args ds gs before hval0 hW hcnd _
  have hval : ∀ (j : Nat) t v, Try.f8.params[j]? = some t → args[j]? = some v → Value.okWide Try.prog W .any base t v := hval0
  have hW' := hW
  obtain ⟨p, q, hA0, hV, rfl, hfz, hnd⟩ := hW
  have hA : DataW.TrodAll enc Try.prog W 0 (fun _ => true) true Try.f8.params.toList args.toList ds p := hA0
  rw [Try.params8] at hA hval
  obtain ⟨v0, vs0, d0, ds0, p0, q0, hargs, rfl, rfl, h0, r0⟩ := trodAll_cons hA
  obtain ⟨v1, vs1, d1, ds1, p1, q1, rfl, rfl, rfl, h1, r1⟩ := trodAll_cons r0
  obtain ⟨v2, vs2, d2, ds2, p2, q2, rfl, rfl, rfl, h2, r2⟩ := trodAll_cons r1
  obtain ⟨v3, vs3, d3, ds3, p3, q3, rfl, rfl, rfl, h3, r3⟩ := trodAll_cons r2
  obtain ⟨rfl, rfl, rfl⟩ := trodAll_nil r3
  obtain rfl : args = #[v0, v1, v2, v3] := by cases args; simp_all
  obtain ⟨rfl, rfl⟩ := trodVars_none hV
  obtain ⟨a0, rfl, rfl, rfl, w0⟩ := open_int Try.underlying3 (hval 0 3 v0 rfl rfl) h0
  obtain ⟨a1, rfl, rfl, rfl, w1⟩ := open_int Try.underlying3 (hval 1 3 v1 rfl rfl) h1
  obtain ⟨a2, len2, cap2, rfl⟩ := okWide_slice Try.underlying30 (hval 2 30 v2 rfl rfl)
  have k2 := h2
  have lt2 : ∀ x ∈ p2, x.block < W.heap.size := by obtain ⟨m, hm⟩ := k2; exact DataW.trod_lt m _ _ _ hm
  obtain ⟨z2, w2⟩ : ∃ zs, IsRow .i64 W a2 len2 cap2 zs := by
    obtain ⟨fuel, hf⟩ := h2
    rcases open_ints Try.underlying30 Try.underlying3 (by kernel_rfl) hf with ⟨hcs, _⟩ | ⟨x, l, c, zs, hcs, _, hl, hm, hz, _, hcell, hwz⟩
    · simp [Value.cells] at hcs
      obtain ⟨rfl, rfl, rfl⟩ := hcs
      exact ⟨[], .inl ⟨rfl, rfl, rfl, rfl⟩⟩
    · simp [Value.cells] at hcs
      obtain ⟨rfl, rfl, rfl⟩ := hcs
      exact ⟨zs, .inr ⟨_, rfl, hl, hm, by simpa using hz, hcell, hwz⟩⟩
  obtain ⟨a3, len3, cap3, rfl⟩ := okWide_slice Try.underlying30 (hval 3 30 v3 rfl rfl)
  have k3 := h3
  have lt3 : ∀ x ∈ p3, x.block < W.heap.size := by obtain ⟨m, hm⟩ := k3; exact DataW.trod_lt m _ _ _ hm
  obtain ⟨z3, w3⟩ : ∃ zs, IsRow .i64 W a3 len3 cap3 zs := by
    obtain ⟨fuel, hf⟩ := h3
    rcases open_ints Try.underlying30 Try.underlying3 (by kernel_rfl) hf with ⟨hcs, _⟩ | ⟨x, l, c, zs, hcs, _, hl, hm, hz, _, hcell, hwz⟩
    · simp [Value.cells] at hcs
      obtain ⟨rfl, rfl, rfl⟩ := hcs
      exact ⟨[], .inl ⟨rfl, rfl, rfl, rfl⟩⟩
    · simp [Value.cells] at hcs
      obtain ⟨rfl, rfl, rfl⟩ := hcs
      exact ⟨zs, .inr ⟨_, rfl, hl, hm, by simpa using hz, hcell, hwz⟩⟩
  clear hA0 hval0
  refine (walk a0 a1 a2 len2 cap2 z2 a3 len3 cap3 z3 W w0 w1 w2 w3).mono fun e W' ⟨he, bel⟩ => ?_
  subst he
  exact ⟨_, rfl, _, _, _, [], _, [], hW', trodAll_mk1 (shut_bool Try.underlying4 _), (trodAll_cons_mk (shut_int Try.underlying3 w0) (trodAll_cons_mk (shut_int Try.underlying3 w1) (trodAll_cons_mk (Below.trod laidOut (by kernel_rfl) (of_decide_eq_true (by kernel_rfl)) k2 bel lt2) (trodAll_cons_mk (Below.trod laidOut (by kernel_rfl) (of_decide_eq_true (by kernel_rfl)) k3 bel lt3) trodAll_mk0)))), rfl, bel.frame _, fun h => by cases h⟩

theorem over : Rows.wholeMixesRow.holds Try.pinned (OpenSpec.ofChange Rows.wholeMixesSpec) :=
  OpenClaim.holds_of_wide 8 Try.f8 rfl rfl rfl rfl rfl rfl rfl ⟨rfl, rfl, rfl, rfl, rfl⟩ rfl rfl rfl rfl rfl (by kernel_rfl) Try.func8 (by kernel_rfl)
    (of_decide_eq_true (by kernel_rfl)) (by unfold Func.isWrapper; first | (rw [if_pos (by decide +kernel)]; kernel_rfl) | (rw [if_neg (by decide +kernel)]; exact ⟨rfl, rfl⟩))
    (fun os started H enc _ => lifted os started H enc)

end Go.Proofs.Ytgombejncjcjhaa.wholeMixes

namespace Go.Proofs.Ytgombejncjcjhaa
theorem wholeMixes_holds : Rows.WholeMixesSaid := wholeMixes.over
#print axioms wholeMixes_holds
end Go.Proofs.Ytgombejncjcjhaa
