/-
  The law KnitThird, walked: it returns true for every number of elements, every list of pairs and every three elements.
  Conditions: each number is a byte.
-/
import Derived.Test.YthpcaamfcmjnmaaWake3
import Derived.Test.YthpcaamfcmjnmaaPairsIn
import Derived.Deep.RegionHeld3
namespace Go.Proofs.Ythpcaamfcmjnmaa
open Go.RowKit
set_option linter.unusedVariables false

set_option maxRecDepth 100000 in
set_option maxHeartbeats 2000000 in
theorem third_big (nv x y z : Int) (A : Option Addr) (n cap : Nat) (w : World) (hn : 40 < n) (hm : n ≤ 9223372036854775807) :
    Calls Try.prog 8 #[.int .u8 nv, .slice A n cap, .int .u8 x, .int .u8 y, .int .u8 z] w fun e w' => e = .returned (.bool true) ∧ Below w.heap.size w w' := by
  go_enter Try.func8, Try.ntmps8
  go_wp2_with fail
  refine (awake3 _).mono ?_
  rintro e w1 ⟨rfl, hB⟩
  have HB := Lib.hid hB
  clear hB
  go_wp2_with fail
  refine (awake3 _).mono ?_
  rintro e w2 ⟨rfl, hB⟩
  go_wp2
  go_ret
  exact ⟨rfl, HB.out.trans (hB.mono HB.out.size)⟩

/-- the remainder of a byte by the number of elements -/
theorem rem_nat (z : Int) (m : Nat) (hz : 0 ≤ z) (hm : 0 < m) : ∃ c : Nat, z.tmod (m : Int) = c ∧ z % (m : Int) = c ∧ c < m := by
  obtain ⟨k, rfl⟩ : ∃ k : Nat, z = k := ⟨z.toNat, by omega⟩
  exact ⟨k % m, by rw [Int.tmod_eq_emod_of_nonneg (by omega)]; rfl, rfl, Nat.mod_lt _ hm⟩

set_option maxRecDepth 100000 in
set_option maxHeartbeats 8000000 in
theorem third_law (N : Nat) (hN : N ≤ 255) (x y z : Int) (hx1 : 0 ≤ x) (hx2 : x ≤ 255) (hy1 : 0 ≤ y) (hy2 : y ≤ 255) (hz1 : 0 ≤ z) (hz2 : z ≤ 255) (A : Option Addr) (cap : Nat) (ls : List (Int × Int)) (w : World) (hr : ReadsP .u8 w A ls) (hl : ls.length ≤ 40) :
    Calls Try.prog 8 #[.int .u8 N, .slice A ls.length cap, .int .u8 x, .int .u8 y, .int .u8 z] w fun e w' => e = .returned (.bool true) ∧ Below w.heap.size w w' := by
  have Hr := Lib.hid hr
  clear hr
  obtain ⟨n, hn⟩ : ∃ n, n = ls.length := ⟨_, rfl⟩
  rw [← hn] at hl ⊢
  have Hn := Lib.hid hn
  clear hn
  go_enter Try.func8, Try.ntmps8
  go_wp2_with fail
  refine (awake3 _).mono ?_
  rintro e wa ⟨rfl, hB⟩
  have HB := Lib.hid hB
  clear hB
  go_wp2_with fail
  obtain ⟨m, hm1⟩ : ∃ m : Nat, 1 + (N : Int) % 20 = m := ⟨1 + N % 20, by omega⟩
  rw [hm1]
  have hm0 : 0 < m := by omega
  have hm20 : m ≤ 20 := by omega
  clear hm1
  refine (new_any m (by omega) wa).mono ?_
  rintro e w1 ⟨rfl, h1, b1⟩
  have H1 := Lib.hid h1
  have B1 := Lib.hid b1
  clear h1 b1
  have hmi : (m : Int) ≠ 0 := by omega
  go_wp2
  go_loopw [13] (fun t wr => ∃ i : Nat, ∃ rho : Nat → Nat, i ≤ n ∧ t = .int .i64 i ∧ KnitAt wa.heap.size wr (wa.heap.size + 1) wa.heap.size m rho ∧ Below wa.heap.size wa wr) (fun t _ => n - (intOf t).toNat)
  case atStart => exact ⟨0, _, by omega, rfl, H1.out, B1.out⟩
  case round =>
    obtain ⟨i, rho, hi, rfl, hk, hb⟩ := hrel
    have K := Lib.hid hk
    have Bk := Lib.hid hb
    clear hk hb
    by_cases hlt : i < n
    · obtain ⟨b, off, rfl, hbl, p, q, hpq, c1, c2, wp1, wq1⟩ := Hr.out.place i (by rw [← Hn.out]; exact hlt)
      obtain ⟨hp1, hp2⟩ := bounds_u8 wp1
      obtain ⟨hq1, hq2⟩ := bounds_u8 wq1
      obtain ⟨u, hu, hu2, hum⟩ := rem_nat p m hp1 hm0
      obtain ⟨v, hv, hv2, hvm⟩ := rem_nat q m hq1 hm0
      have hbw : b < wa.heap.size := by have := HB.out.size; omega
      have e1 := (Bk.out.cell (p := ⟨b, off + i * 2, none⟩) hbw).trans ((HB.out.cell (p := ⟨b, off + i * 2, none⟩) hbl).trans c1)
      have e2 := (Bk.out.cell (p := ⟨b, off + i * 2 + 1, none⟩) hbw).trans ((HB.out.cell (p := ⟨b, off + i * 2 + 1, none⟩) hbl).trans c2)
      clear c1 c2 wp1 wq1 hpq
      have hm00 : ¬ m = 0 := by omega
      have hwu : Hid ((IntKind.i64.wrap p).tmod (m : Int) = (u : Int)) := Lib.hid (by rw [IntWalk.i64_in p (by omega)]; exact hu)
      have hwv : Hid ((IntKind.i64.wrap q).tmod (m : Int) = (v : Int)) := Lib.hid (by rw [IntWalk.i64_in q (by omega)]; exact hv)
      have hbr : b < wr.drew.heap.size := by have := Bk.out.size; show b < wr.heap.size; omega
      have hbn : ¬ b = wa.heap.size := by omega
      have hii : (i : Int) < (n : Int) := by omega
      have hi0 : (0 : Int) ≤ (i : Int) := by omega
      go_wp2
      go_region_held3 (fun w' => w'.cell? ⟨b, off + i * 2, none⟩ = some (.int .u8 p) ∧ w'.cell? ⟨b, off + i * 2 + 1, none⟩ = some (.int .u8 q)) (first | go_keep | exact ⟨f1, f2⟩)
        ((go_at_call 18; rw [hwu.out, hwv.out]; refine (join_in u v (K.out.below (Below.drew (Below.refl _ _))) hum hvm).mono ?_; rintro e w2 ⟨rfl, h2, k2⟩; have f1 := k2.cell hbr hbn (show wr.drew.cell? ⟨b, off + i * 2, none⟩ = _ from e1); have f2 := k2.cell hbr hbn (show wr.drew.cell? ⟨b, off + i * 2 + 1, none⟩ = _ from e2)))
      · have Bn := Lib.hid (Bk.out.drew.trans ((K.out.below (Below.drew (Below.refl _ _))).belowB k2))
        have Hn1 := Lib.hid h2
        clear h2 k2 f1 f2 e1 e2 K Bk
        go_wp2
        go_roundw
        case rel => exact ⟨i + 1, _, by omega, by go_num, Hn1.out, Bn.out⟩
        case measure => simp [intOf]; omega
    · obtain ⟨a, hta, hea, ham⟩ := rem_nat x m hx1 hm0
      obtain ⟨b, htb, heb, hbm⟩ := rem_nat y m hy1 hm0
      obtain ⟨c, htc, hec, hcm⟩ := rem_nat z m hz1 hm0
      have Bz := Bk
      have H := K
      have hra1 : (rho a : Int) ≤ (a : Int) := by have := (K.out.root a).1; omega
      have hra2 : rho (rho a) = rho a := (K.out.root a).2
      have hram : rho a < m := by have := (K.out.root a).1; omega
      clear K Bk
      by_cases hab : rho a = rho b
      · have dab := Lib.hid hab
        have dba := Lib.hid hab.symm
        have hbe : ((rho a : Int) == (rho b : Int)) = true := by simp [hab]
        by_cases hbc : rho b = rho c
        · have dbc := Lib.hid hbc
          have dac := Lib.hid (hab.trans hbc)
          clear hab hbc
          go_wp2_with fail
          refine (same_in a b H.out ham hbm).mono ?_
          rintro e wn ⟨rfl, hn1, kn⟩
          have Bn := Lib.hid (Bz.out.trans (H.out.belowB kn))
          rw [show decide (rho a = rho b) = true by simp [dab.out]]
          have Hn1 := Lib.hid hn1
          clear hn1 kn H Bz
          have H := Hn1
          have Bz := Bn
          clear Hn1 Bn
          go_wp2_with fail
          refine (same_in b c H.out hbm hcm).mono ?_
          rintro e wn ⟨rfl, hn1, kn⟩
          have Bn := Lib.hid (Bz.out.trans (H.out.belowB kn))
          rw [show decide (rho b = rho c) = true by simp [dbc.out]]
          have Hn1 := Lib.hid hn1
          clear hn1 kn H Bz
          have H := Hn1
          have Bz := Bn
          clear Hn1 Bn
          go_wp2_with fail
          refine (same_in a c H.out ham hcm).mono ?_
          rintro e wn ⟨rfl, hn1, kn⟩
          have Bn := Lib.hid (Bz.out.trans (H.out.belowB kn))
          rw [show decide (rho a = rho c) = true by simp [dac.out]]
          have Hn1 := Lib.hid hn1
          clear hn1 kn H Bz
          have H := Hn1
          have Bz := Bn
          clear Hn1 Bn
          go_wp2_with fail
          refine (same_in a b H.out ham hbm).mono ?_
          rintro e wn ⟨rfl, hn1, kn⟩
          have Bn := Lib.hid (Bz.out.trans (H.out.belowB kn))
          rw [show decide (rho a = rho b) = true by simp [dab.out]]
          have Hn1 := Lib.hid hn1
          clear hn1 kn H Bz
          have H := Hn1
          have Bz := Bn
          clear Hn1 Bn
          go_wp2_with fail
          refine (same_in b a H.out hbm ham).mono ?_
          rintro e wn ⟨rfl, hn1, kn⟩
          have Bn := Lib.hid (Bz.out.trans (H.out.belowB kn))
          rw [show decide (rho b = rho a) = true by simp [dba.out]]
          have Hn1 := Lib.hid hn1
          clear hn1 kn H Bz
          have H := Hn1
          have Bz := Bn
          clear Hn1 Bn
          go_wp2_with fail
          refine (find_in a H.out ham).mono ?_
          rintro e wn ⟨rfl, hn1, kn⟩
          have Bn := Lib.hid (Bz.out.trans (H.out.belowB kn))
          have Hn1 := Lib.hid hn1
          clear hn1 kn H Bz
          have H := Hn1
          have Bz := Bn
          clear Hn1 Bn
          go_wp2_with fail
          refine (find_in b H.out hbm).mono ?_
          rintro e wn ⟨rfl, hn1, kn⟩
          have Bn := Lib.hid (Bz.out.trans (H.out.belowB kn))
          have Hn1 := Lib.hid hn1
          clear hn1 kn H Bz
          have H := Hn1
          have Bz := Bn
          clear Hn1 Bn
          go_wp2_with fail
          refine (same_in a b H.out ham hbm).mono ?_
          rintro e wn ⟨rfl, hn1, kn⟩
          have Bn := Lib.hid (Bz.out.trans (H.out.belowB kn))
          rw [show decide (rho a = rho b) = true by simp [dab.out]]
          have Hn1 := Lib.hid hn1
          clear hn1 kn H Bz
          have H := Hn1
          have Bz := Bn
          clear Hn1 Bn
          go_wp2_with fail
          refine (find_in a H.out ham).mono ?_
          rintro e wn ⟨rfl, hn1, kn⟩
          have Bn := Lib.hid (Bz.out.trans (H.out.belowB kn))
          have Hn1 := Lib.hid hn1
          clear hn1 kn H Bz
          have H := Hn1
          have Bz := Bn
          clear Hn1 Bn
          go_wp2_with fail
          refine (find_in (rho a) H.out hram).mono ?_
          rintro e wn ⟨rfl, hn1, kn⟩
          have Bn := Lib.hid (Bz.out.trans (H.out.belowB kn))
          have Hn1 := Lib.hid hn1
          clear hn1 kn H Bz
          have H := Hn1
          have Bz := Bn
          clear Hn1 Bn
          rw [hra2]
          go_wp2_with fail
          refine (find_in a H.out ham).mono ?_
          rintro e wn ⟨rfl, hn1, kn⟩
          have Bn := Lib.hid (Bz.out.trans (H.out.belowB kn))
          have Hn1 := Lib.hid hn1
          clear hn1 kn H Bz
          have H := Hn1
          have Bz := Bn
          clear Hn1 Bn
          go_wp2_with fail
          refine (find_in a H.out ham).mono ?_
          rintro e wn ⟨rfl, hn1, kn⟩
          have Bn := Lib.hid (Bz.out.trans (H.out.belowB kn))
          have Hn1 := Lib.hid hn1
          clear hn1 kn H Bz
          have H := Hn1
          have Bz := Bn
          clear Hn1 Bn
          go_wp2
          go_ret
          exact ⟨rfl, HB.out.trans (Bz.out.mono HB.out.size)⟩
        · have dbc := Lib.hid hbc
          clear hab hbc
          go_wp2_with fail
          refine (same_in a b H.out ham hbm).mono ?_
          rintro e wn ⟨rfl, hn1, kn⟩
          have Bn := Lib.hid (Bz.out.trans (H.out.belowB kn))
          rw [show decide (rho a = rho b) = true by simp [dab.out]]
          have Hn1 := Lib.hid hn1
          clear hn1 kn H Bz
          have H := Hn1
          have Bz := Bn
          clear Hn1 Bn
          go_wp2_with fail
          refine (same_in b c H.out hbm hcm).mono ?_
          rintro e wn ⟨rfl, hn1, kn⟩
          have Bn := Lib.hid (Bz.out.trans (H.out.belowB kn))
          rw [show decide (rho b = rho c) = false by simp [dbc.out]]
          have Hn1 := Lib.hid hn1
          clear hn1 kn H Bz
          have H := Hn1
          have Bz := Bn
          clear Hn1 Bn
          go_wp2_with fail
          refine (same_in a b H.out ham hbm).mono ?_
          rintro e wn ⟨rfl, hn1, kn⟩
          have Bn := Lib.hid (Bz.out.trans (H.out.belowB kn))
          rw [show decide (rho a = rho b) = true by simp [dab.out]]
          have Hn1 := Lib.hid hn1
          clear hn1 kn H Bz
          have H := Hn1
          have Bz := Bn
          clear Hn1 Bn
          go_wp2_with fail
          refine (same_in b a H.out hbm ham).mono ?_
          rintro e wn ⟨rfl, hn1, kn⟩
          have Bn := Lib.hid (Bz.out.trans (H.out.belowB kn))
          rw [show decide (rho b = rho a) = true by simp [dba.out]]
          have Hn1 := Lib.hid hn1
          clear hn1 kn H Bz
          have H := Hn1
          have Bz := Bn
          clear Hn1 Bn
          go_wp2_with fail
          refine (find_in a H.out ham).mono ?_
          rintro e wn ⟨rfl, hn1, kn⟩
          have Bn := Lib.hid (Bz.out.trans (H.out.belowB kn))
          have Hn1 := Lib.hid hn1
          clear hn1 kn H Bz
          have H := Hn1
          have Bz := Bn
          clear Hn1 Bn
          go_wp2_with fail
          refine (find_in b H.out hbm).mono ?_
          rintro e wn ⟨rfl, hn1, kn⟩
          have Bn := Lib.hid (Bz.out.trans (H.out.belowB kn))
          have Hn1 := Lib.hid hn1
          clear hn1 kn H Bz
          have H := Hn1
          have Bz := Bn
          clear Hn1 Bn
          go_wp2_with fail
          refine (same_in a b H.out ham hbm).mono ?_
          rintro e wn ⟨rfl, hn1, kn⟩
          have Bn := Lib.hid (Bz.out.trans (H.out.belowB kn))
          rw [show decide (rho a = rho b) = true by simp [dab.out]]
          have Hn1 := Lib.hid hn1
          clear hn1 kn H Bz
          have H := Hn1
          have Bz := Bn
          clear Hn1 Bn
          go_wp2_with fail
          refine (find_in a H.out ham).mono ?_
          rintro e wn ⟨rfl, hn1, kn⟩
          have Bn := Lib.hid (Bz.out.trans (H.out.belowB kn))
          have Hn1 := Lib.hid hn1
          clear hn1 kn H Bz
          have H := Hn1
          have Bz := Bn
          clear Hn1 Bn
          go_wp2_with fail
          refine (find_in (rho a) H.out hram).mono ?_
          rintro e wn ⟨rfl, hn1, kn⟩
          have Bn := Lib.hid (Bz.out.trans (H.out.belowB kn))
          have Hn1 := Lib.hid hn1
          clear hn1 kn H Bz
          have H := Hn1
          have Bz := Bn
          clear Hn1 Bn
          rw [hra2]
          go_wp2_with fail
          refine (find_in a H.out ham).mono ?_
          rintro e wn ⟨rfl, hn1, kn⟩
          have Bn := Lib.hid (Bz.out.trans (H.out.belowB kn))
          have Hn1 := Lib.hid hn1
          clear hn1 kn H Bz
          have H := Hn1
          have Bz := Bn
          clear Hn1 Bn
          go_wp2_with fail
          refine (find_in a H.out ham).mono ?_
          rintro e wn ⟨rfl, hn1, kn⟩
          have Bn := Lib.hid (Bz.out.trans (H.out.belowB kn))
          have Hn1 := Lib.hid hn1
          clear hn1 kn H Bz
          have H := Hn1
          have Bz := Bn
          clear Hn1 Bn
          go_wp2
          go_ret
          exact ⟨rfl, HB.out.trans (Bz.out.mono HB.out.size)⟩
      · have dab := Lib.hid hab
        have dba : Hid (¬ rho b = rho a) := Lib.hid (fun e => hab (Eq.symm e))
        have hbe : ((rho a : Int) == (rho b : Int)) = false := by simp; omega
        clear hab
        go_wp2_with fail
        refine (same_in a b H.out ham hbm).mono ?_
        rintro e wn ⟨rfl, hn1, kn⟩
        have Bn := Lib.hid (Bz.out.trans (H.out.belowB kn))
        rw [show decide (rho a = rho b) = false by simp [dab.out]]
        have Hn1 := Lib.hid hn1
        clear hn1 kn H Bz
        have H := Hn1
        have Bz := Bn
        clear Hn1 Bn
        go_wp2_with fail
        refine (same_in a b H.out ham hbm).mono ?_
        rintro e wn ⟨rfl, hn1, kn⟩
        have Bn := Lib.hid (Bz.out.trans (H.out.belowB kn))
        rw [show decide (rho a = rho b) = false by simp [dab.out]]
        have Hn1 := Lib.hid hn1
        clear hn1 kn H Bz
        have H := Hn1
        have Bz := Bn
        clear Hn1 Bn
        go_wp2_with fail
        refine (same_in b a H.out hbm ham).mono ?_
        rintro e wn ⟨rfl, hn1, kn⟩
        have Bn := Lib.hid (Bz.out.trans (H.out.belowB kn))
        rw [show decide (rho b = rho a) = false by simp [dba.out]]
        have Hn1 := Lib.hid hn1
        clear hn1 kn H Bz
        have H := Hn1
        have Bz := Bn
        clear Hn1 Bn
        go_wp2_with fail
        refine (find_in a H.out ham).mono ?_
        rintro e wn ⟨rfl, hn1, kn⟩
        have Bn := Lib.hid (Bz.out.trans (H.out.belowB kn))
        have Hn1 := Lib.hid hn1
        clear hn1 kn H Bz
        have H := Hn1
        have Bz := Bn
        clear Hn1 Bn
        go_wp2_with fail
        refine (find_in b H.out hbm).mono ?_
        rintro e wn ⟨rfl, hn1, kn⟩
        have Bn := Lib.hid (Bz.out.trans (H.out.belowB kn))
        have Hn1 := Lib.hid hn1
        clear hn1 kn H Bz
        have H := Hn1
        have Bz := Bn
        clear Hn1 Bn
        go_wp2_with fail
        refine (same_in a b H.out ham hbm).mono ?_
        rintro e wn ⟨rfl, hn1, kn⟩
        have Bn := Lib.hid (Bz.out.trans (H.out.belowB kn))
        rw [show decide (rho a = rho b) = false by simp [dab.out]]
        have Hn1 := Lib.hid hn1
        clear hn1 kn H Bz
        have H := Hn1
        have Bz := Bn
        clear Hn1 Bn
        go_wp2_with fail
        refine (find_in a H.out ham).mono ?_
        rintro e wn ⟨rfl, hn1, kn⟩
        have Bn := Lib.hid (Bz.out.trans (H.out.belowB kn))
        have Hn1 := Lib.hid hn1
        clear hn1 kn H Bz
        have H := Hn1
        have Bz := Bn
        clear Hn1 Bn
        go_wp2_with fail
        refine (find_in (rho a) H.out hram).mono ?_
        rintro e wn ⟨rfl, hn1, kn⟩
        have Bn := Lib.hid (Bz.out.trans (H.out.belowB kn))
        have Hn1 := Lib.hid hn1
        clear hn1 kn H Bz
        have H := Hn1
        have Bz := Bn
        clear Hn1 Bn
        rw [hra2]
        go_wp2_with fail
        refine (find_in a H.out ham).mono ?_
        rintro e wn ⟨rfl, hn1, kn⟩
        have Bn := Lib.hid (Bz.out.trans (H.out.belowB kn))
        have Hn1 := Lib.hid hn1
        clear hn1 kn H Bz
        have H := Hn1
        have Bz := Bn
        clear Hn1 Bn
        go_wp2_with fail
        refine (find_in a H.out ham).mono ?_
        rintro e wn ⟨rfl, hn1, kn⟩
        have Bn := Lib.hid (Bz.out.trans (H.out.belowB kn))
        have Hn1 := Lib.hid hn1
        clear hn1 kn H Bz
        have H := Hn1
        have Bz := Bn
        clear Hn1 Bn
        go_wp2
        go_ret
        exact ⟨rfl, HB.out.trans (Bz.out.mono HB.out.size)⟩

theorem third_lawI (n x y z : Int) (hn1 : 0 ≤ n) (hn2 : n ≤ 255) (hx1 : 0 ≤ x) (hx2 : x ≤ 255) (hy1 : 0 ≤ y) (hy2 : y ≤ 255) (hz1 : 0 ≤ z) (hz2 : z ≤ 255) (A : Option Addr) (cap : Nat) (ls : List (Int × Int)) (w : World) (hr : ReadsP .u8 w A ls) (hm : ls.length ≤ 9223372036854775807) :
    Calls Try.prog 8 #[.int .u8 n, .slice A ls.length cap, .int .u8 x, .int .u8 y, .int .u8 z] w fun e w' => e = .returned (.bool true) ∧ Below w.heap.size w w' := by
  obtain ⟨N, rfl⟩ : ∃ N : Nat, n = N := ⟨n.toNat, by omega⟩
  by_cases hl : ls.length ≤ 40
  · exact third_law N (by omega) x y z hx1 hx2 hy1 hy2 hz1 hz2 A cap ls w hr hl
  · exact third_big N x y z A ls.length cap w (by omega) hm

end Go.Proofs.Ythpcaamfcmjnmaa
