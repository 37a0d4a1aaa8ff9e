/-
  The walk of the law SwiftParts: an engine that has some transitions alone, and tells what goes away.
  Conditions: none beyond the theorems' own.
-/
import Derived.Test.YtpbbdnicafifpaaPartsX
import Derived.Test.YtpbbdnicafifpaaAwake10
import Derived.Test.YtpbbdnicafifpaaPartsM
import Derived.Test.YtpbbdnicafifpaaEgNil
import Derived.Test.YtpbbdnicafifpaaEgS
import Derived.Test.YtpbbdnicafifpaaEgL
import Derived.Test.YtpbbdnicafifpaaEgO
import Derived.Test.YtpbbdnicafifpaaEgT
namespace Go.Proofs.Ytpbbdnicafifpaa
open Go.RowKit
set_option linter.unusedVariables false

set_option maxRecDepth 100000 in
theorem field_nil (w : World) : (Instr.field 51 (.agg #[.slice none 0 0, .slice none 0 0, .slice none 0 0, .int .i64 0]) 1).run Try.prog w = .ok (.slice none 0 0) w := by
  first | rfl | (go_simp; done) | (simp [go_sem, Instr.run]; done)

set_option maxRecDepth 100000 in
set_option maxHeartbeats 4000000 in
theorem sparts_law {w : World} {tk dl : Nat} (htk : tk < 256) (hdl : dl < 256) :
    Calls Try.prog 11 #[.int .u8 tk, .int .u8 dl] w fun e w' => e = .returned (.bool true) ∧ Below w.heap.size w w' := by
  obtain ⟨k, hk⟩ : ∃ k : Nat, k = tk % 15 := ⟨_, rfl⟩
  obtain ⟨d, hd⟩ : ∃ d : Nat, d = dl % 9 := ⟨_, rfl⟩
  have hkI : (tk : Int) % 15 = (k : Int) := by omega
  have hdI : (dl : Int) % 9 = (d : Int) := by omega
  have hk15 : k < 15 := by omega
  have hd9 : d < 9 := by omega
  have HkI := Lib.hid hkI
  have HdI := Lib.hid hdI
  obtain ⟨hnet, n0, n1⟩ := partsX_net w k d
  have hsz := partsX_size w k d
  have hbx := partsX_below w k d
  obtain ⟨X, hX⟩ : ∃ X, X = instAll (partsN' k d).trans 0 (start (partsN' k d)) := ⟨_, rfl⟩
  have hrun := parts_run k hk15 d hd9
  rw [← hX] at hrun
  obtain ⟨x1, x2, x3, x4⟩ := hrun
  have hnok := checkN_nok (parts_check' k hk15 d hd9)
  have Hchk := Lib.hid (parts_check k hk15 d hd9)
  have Hnok := Lib.hid hnok
  have HX := Lib.hid (And.intro x1 (And.intro x2 (And.intro x3 (List.eq_nil_of_length_eq_zero x4))))
  have HXe := Lib.hid hX
  have HXinv := Lib.hid (instAll_inv hnok (start_inv hnok))
  clear hk hd hkI hdI x1 x2 x3 x4 hX hnok
  go_enter Try.func11, Try.ntmps11
  go_upto_region 4 with (fail)
  rw [HkI.out, HdI.out]
  obtain ⟨W1, hW1⟩ : ∃ W1, W1 = partsX w k d := ⟨_, rfl⟩
  rw [← hW1] at hnet n0 n1 hsz hbx
  unfold partsX at hW1
  rw [← hW1]
  clear hW1
  obtain ⟨A, hA⟩ : ∃ A, A = w.heap.size := ⟨_, rfl⟩
  have Hbx := Lib.hid hbx
  have Hnet := Lib.hid hnet
  rw [← hA] at n0 n1 hsz Hnet ⊢
  have nl : A + 1 + 1 + 1 + 1 + 1 < W1.heap.size := by omega
  obtain ⟨W3, hW3⟩ : ∃ W3, W3 = (W1.alloc (.cells #[.bool true] 4)).alloc (.cells #[.bool false, .bool true] 4) := ⟨_, rfl⟩
  have hb3 : Below W1.heap.size W1 W3 := by rw [hW3]; exact ((Below.refl _ _).alloc (Nat.le_refl _) _).alloc (by simp) _
  have s3 : W3.heap.size = W1.heap.size + 1 + 1 := by rw [hW3]; simp
  have b0 : CellsAre W3 W1.heap.size 0 [.bool true] := ⟨by rw [hW3]; go_simp, trivial⟩
  have b1 : CellsAre W3 (W1.heap.size + 1) 0 [.bool false, .bool true] := ⟨by rw [hW3]; go_simp, by rw [hW3]; go_simp, trivial⟩
  have B0 : BoolsAt W3 (.slice (some ⟨W1.heap.size, 0, none⟩) 1 1) [true] := b0.row (by omega) rfl (Nat.le_refl _) (by omega)
  have B1 : BoolsAt W3 (.slice (some ⟨W1.heap.size + 1, 0, none⟩) 2 2) [false, true] := b1.row (by omega) rfl (Nat.le_refl _) (by omega)
  have Hnew := Lib.hid (new_any (w := W3) (n := partsN k d) (np := 2) (nt := 2) rfl rfl (Hnet.out.below hb3) (fun s hs => by
    have : s = ⟨#[112]⟩ ∨ s = ⟨#[113]⟩ ∨ s = ⟨#[116]⟩ ∨ s = ⟨#[117]⟩ := by simpa [Nt.names, partsN, partsPls, partsT, partsU] using hs
    rcases this with rfl | rfl | rfl | rfl <;> decide) Hchk.out rfl rfl B0 B1)
  have HbW3 := Lib.hid (Hbx.out.trans (hb3.mono (by rw [← hA]; omega)))
  have HW3 := Lib.hid hW3
  clear hbx hnet b0 b1 B0 B1 s3 hb3 hA hW3 hsz
  go_wp2_with fail
  rw [← HW3.out]
  refine Hnew.out.mono ?_
  rintro r w4 ⟨c, e, rfl, hc, hcn, haw, hE, hg, hS, hto, ht0⟩
  have haw2 : c.aw = [false, true] := haw
  have hM : Masked c.n.trans (partsN' k d).trans (mineOf 2 [true]) (awB c) := by
    rw [hcn]
    have := parts_masked k d
    have e1 : awB c = fun p => [false, true].getD p.toNat false := by funext p; unfold awB; rw [haw2]
    rw [e1]; exact this
  have hin := einstant_any (t := 0) hc hE (by rw [haw2, hcn]; rfl) hg Hnok.out (start_inv Hnok.out) (by rw [hcn]; rfl) hM hS (by rw [hto]; simp)
  rw [← HXe.out, HX.out.1] at hin
  have Hin := Lib.hid hin
  have Hcn := Lib.hid hcn
  have Haw := Lib.hid haw2
  have Hto := Lib.hid hto
  clear hc haw haw2 hE hg hS hto ht0 hM hin hcn n0 n1 nl
  go_wp2_with fail
  refine Hin.out.mono ?_
  rintro r w5 ⟨rfl, e2, lg, hE2, hS2, ht2, hlg, hto2⟩
  have hlg2 : lg = List.replicate k (0, 0) := by
    have h1 : List.replicate k (0, 0) = [] ++ lg := by rw [← HX.out.2.1]; exact hlg
    rw [h1]; rfl
  have hT : e2.told = List.replicate k ⟨(d : Int), 1, 3⟩ := by rw [hto2, Hto.out, hlg2, parts_told Hcn.out Haw.out]; rfl
  have hnx := enextS_any hE2 hS2 (fun x hx => by rw [HX.out.2.2.2] at hx; cases hx)
  rw [show nextT X.1.q = -1 by rw [HX.out.2.2.2]; rfl] at hnx
  have e1 : e2.log.length = k := by rw [hS2.log, HX.out.2.1, List.length_replicate]
  have e3 : e2.m = [0, 0] := by rw [hS2.m, HX.out.2.2.1]
  have e4 : e2.way = [0, 0] := by rw [hS2.way, HX.out.2.2.2, Hcn.out]; rfl
  have Hnx := Lib.hid hnx
  have HE2 := Lib.hid hE2
  have HT := Lib.hid hT
  have He := Lib.hid (And.intro e1 (And.intro e3 (And.intro e4 ht2)))
  clear hlg hlg2 hto2 hT hnx hE2 hS2 ht2 e1 e3 e4 Hin
  go_wp2_with fail
  refine Hnx.out.mono ?_
  rintro r w6 ⟨rfl, hb6⟩
  have htl := etold_any (HE2.out.go hb6)
  rw [HT.out, List.length_replicate] at htl
  have Htl := Lib.hid htl
  clear htl hb6 Hnx
  go_wp2_with fail
  refine Htl.out.mono ?_
  rintro r w7 ⟨al, cl, rfl, hE4⟩
  have HE4 := Lib.hid hE4
  have Hres : Hid (Calls Try.prog 35 #[.pointer (some ⟨c.b, 0, none⟩)] w7 fun r w' => ∃ a1 c1 a2 c2 a3 c3, r = .returned (.agg #[.slice a1 k c1, .slice a2 2 c2, .slice a3 2 c3, .int .i64 0]) ∧ IntsAt w' (.slice a2 2 c2) [0, 0] ∧ IntsAt w' (.slice a3 2 c3) [0, 0] ∧ Below w7.heap.size w7 w') := Lib.hid ((eresult_any hE4 (by show e2.log.length ≤ _; rw [He.out.1]; omega) (by show e2.m.length ≤ _; rw [He.out.2.1]; decide) (by show e2.way.length ≤ _; rw [He.out.2.2.1]; decide)).mono (by
    rintro r w' ⟨a1, c1, a2, c2, a3, c3, rfl, f1, f2, f3, _, hb⟩
    simp only at f1 f2 f3
    rw [He.out.2.1] at f2
    rw [He.out.2.2.1] at f3
    refine ⟨a1, c1, a2, c2, a3, c3, ?_, f2, f3, hb⟩
    show Ending.returned (resV (.slice a1 e2.log.length c1) (.slice a2 e2.m.length c2) (.slice a3 e2.way.length c3) e2.t) = _
    rw [He.out.1, He.out.2.1, He.out.2.2.1, He.out.2.2.2]; rfl))
  clear hE4 Htl
  go_wp2_with fail
  refine Hres.out.mono ?_
  rintro r w8 ⟨a1, c1, a2, c2, a3, c3, rfl, hm, hw, hb8⟩
  obtain ⟨w9, hw9⟩ : ∃ w9, w9 = w8.alloc (.cells #[.slice a1 k c1, .slice a2 2 c2, .slice a3 2 c3, .int .i64 0] 51) := ⟨_, rfl⟩
  have hb89 : Below w8.heap.size w8 w9 := by rw [hw9]; exact (Below.refl _ _).alloc (Nat.le_refl _) _
  have p0 : w9.cell? ⟨w8.heap.size, 0, none⟩ = some (.slice a1 k c1) := by rw [hw9]; go_simp
  have p1 : w9.cell? ⟨w8.heap.size, 1, none⟩ = some (.slice a2 2 c2) := by rw [hw9]; go_simp
  have p2 : w9.cell? ⟨w8.heap.size, 2, none⟩ = some (.slice a3 2 c3) := by rw [hw9]; go_simp
  have pl : w8.heap.size < w9.heap.size := by rw [hw9]; simp
  have hE9 := HE4.out.go (hb8.trans (hb89.mono hb8.size))
  have hev : EvsAt w9 (.slice al k cl) (List.replicate k ⟨(d : Int), 1, 3⟩) := by
    have := RowAt.of_own hE9.beside
    exact this
  obtain ⟨bm, om, rfl, hbm, m0⟩ := IntsAt.at_ (IntsAt.below hm hb89) (i := 0) (x := 0) rfl
  obtain ⟨bm', om', em', _, m1⟩ := IntsAt.at_ (IntsAt.below hm hb89) (i := 1) (x := 0) rfl
  injection em' with em'
  injection em' with em1 em2
  subst em1 em2
  obtain ⟨bw, ow, rfl, hbw, y1⟩ := IntsAt.at_ (IntsAt.below hw hb89) (i := 1) (x := 0) rfl
  simp only [Nat.add_zero] at m0
  obtain ⟨P, hP⟩ : ∃ P, P = w8.heap.size := ⟨_, rfl⟩
  have HPe := Lib.hid hP
  have Hw9 := Lib.hid hw9
  have HE9 := Lib.hid hE9
  have Hev := Lib.hid hev
  rw [← hP] at p0 p1 p2 pl
  clear hm hw hb8 hb89 hw9 hE9 hev hP Hres
  go_upto_region 9 with (fail)
  rw [← Hw9.out, ← HPe.out]
  have Hz : Hid (∀ (W : World), EgAt W3 W (c.plus (evRow (.slice al k cl) (List.replicate k ⟨(d : Int), 1, 3⟩))) {e2 with told := []} → Calls Try.prog 37 #[.pointer (some ⟨c.b, 0, none⟩)] W fun r w' => ∃ a cap, r = .returned (.slice a 0 cap) ∧ Below W3.heap.size W3 w') := Lib.hid (fun W hW => (etold_any hW).mono (by
    rintro r w' ⟨a, cap, rfl, h⟩
    exact ⟨a, cap, rfl, h.low⟩))
  go_wp2_with fail
  clear m0 m1 y1 p0 p1 p2 hbm hbw
  go_loopw [11] (fun i wr => ∃ j : Nat, j ≤ k ∧ i = .int .i64 j ∧ Below w9.heap.size w9 wr) (fun i _ => k - (intOf i).toNat)
  case atStart => exact ⟨0, by omega, rfl, Below.refl _ _⟩
  case round =>
    rename World => v1
    obtain ⟨j, hj, rfl, hbl⟩ := hrel
    by_cases hlt : j < k
    · have hlti : (j : Int) < (k : Int) := by omega
      have hx : (List.replicate k (⟨(d : Int), 1, 3⟩ : Ev))[j]? = some ⟨(d : Int), 1, 3⟩ := by rw [List.getElem?_replicate, if_pos hlt]
      obtain ⟨be, oe, rfl, hbe, z0, z1, z2⟩ := EvsAt.at_ (RowAt.below Hev.out hbl) hx
      simp only at z0 z1 z2
      have Hbl := Lib.hid hbl
      clear hx hbl
      go_wp2
      go_roundw
      case rel => exact ⟨j + 1, by omega, by go_num, Hbl.out⟩
      case measure => simp [intOf]; omega
    · have hge : ¬ (j : Int) < (k : Int) := by omega
      have HE10 := Lib.hid (HE9.out.go hbl)
      clear hbl
      go_wp2_with fail
      refine (come_nil _ _ _ _).mono ?_
      rintro r wa ⟨rfl, hba⟩
      have HE11 := Lib.hid (HE10.out.go hba)
      clear hba
      go_wp2_with fail
      refine (awake10 _).mono ?_
      rintro r wb ⟨rfl, hbb⟩
      have Ht := Lib.hid (Hz.out _ (HE11.out.go hbb))
      clear hbb
      go_wp2_with fail
      refine Ht.out.mono ?_
      rintro r wc ⟨a9, c9, rfl, hbc⟩
      have H1 := Lib.hid hbc
      clear hbc
      go_wp2_with fail
      refine (enext_nil _).mono ?_
      rintro r wd ⟨rfl, hbd⟩
      have H2 := Lib.hid (H1.out.trans (hbd.mono H1.out.size))
      clear hbd
      go_wp2_with fail
      refine (einstant_nil _ _).mono ?_
      rintro r we ⟨rfl, hbe⟩
      have H3 := Lib.hid (H2.out.trans (hbe.mono H2.out.size))
      clear hbe
      go_wp2_with fail
      refine (etold_nil _).mono ?_
      rintro r wf ⟨rfl, hbf⟩
      have H4 := Lib.hid (H3.out.trans (hbf.mono H3.out.size))
      clear hbf
      go_wp2_with fail
      refine (eresult_nil _).mono ?_
      rintro r wg ⟨rfl, hbg⟩
      have H5 := Lib.hid (H4.out.trans (hbg.mono H4.out.size))
      have HF := Lib.hid (HbW3.out.trans (H5.out.mono HbW3.out.size))
      have hfld := field_nil wg
      clear hbg
      unfold resV
      go_wp2
      go_ret
      exact ⟨rfl, HF.out⟩

theorem sparts_u8 {w : World} {tk dl : Int} (ua : (Lit.int .u8 tk).wf = true) (ub : (Lit.int .u8 dl).wf = true) :
    Calls Try.prog 11 #[.int .u8 tk, .int .u8 dl] w fun e w' => e = .returned (.bool true) ∧ Below w.heap.size w w' := by
  obtain ⟨k, rfl, hk⟩ := u8_nat ua
  obtain ⟨d, rfl, hd⟩ := u8_nat ub
  exact sparts_law hk hd
end Go.Proofs.Ytpbbdnicafifpaa
