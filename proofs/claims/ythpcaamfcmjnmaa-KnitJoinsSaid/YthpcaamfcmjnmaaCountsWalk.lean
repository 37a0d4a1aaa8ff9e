/-
  The law KnitCounts, walked: it returns true for every number of elements and every list of pairs.
  Conditions: each number is a byte.
-/
import Derived.Test.YthpcaamfcmjnmaaThirdWalk
namespace Go.Proofs.Ythpcaamfcmjnmaa
open Go.RowKit
set_option linter.unusedVariables false

theorem filter_ne (p : Nat → Bool) (M : Nat) (hp : p M = true) : ∀ m, M < m → ((List.range m).filter (fun c => p c && c != M)).length + 1 = ((List.range m).filter p).length := by
  intro m
  induction m with
  | zero => intro h; omega
  | succ m ih =>
    intro h
    rw [List.range_succ, List.filter_append, List.filter_append, List.length_append, List.length_append]
    by_cases hM : M = m
    · subst hM
      have e : (List.range M).filter (fun c => p c && c != M) = (List.range M).filter p := by
        apply List.filter_congr
        intro c hc
        have : c ≠ M := by simp at hc; omega
        simp [this]
      rw [e]
      simp [hp]
    · have := ih (by omega)
      have e : ([m].filter (fun c => p c && c != M)).length = ([m].filter p).length := by
        have : m ≠ M := fun e => hM e.symm
        simp [List.filter_cons, this]
      omega

theorem joined_root {rho : Nat → Nat} (hr : ∀ c, rho c ≤ c ∧ rho (rho c) = rho c) (x y : Nat) (h : rho x ≠ rho y) (c : Nat) : (joined rho x y c == c) = ((rho c == c) && c != max (rho x) (rho y)) := by
  have hx := (hr x).2
  have hy := (hr y).2
  have hmn : rho (min (rho x) (rho y)) = min (rho x) (rho y) := by rcases Nat.le_total (rho x) (rho y) with h1 | h1 <;> simp [Nat.min_eq_left h1, Nat.min_eq_right h1, hx, hy]
  unfold joined
  by_cases h1 : rho c = max (rho x) (rho y)
  · rw [if_pos h1]
    have e1 : (min (rho x) (rho y) == c) = false := by
      simp
      intro e
      rw [← e, hmn] at h1
      omega
    rw [e1, h1]
    by_cases h2 : c = max (rho x) (rho y)
    · simp [h2]
    · have : (max (rho x) (rho y) == c) = false := by simp; omega
      rw [this]; rfl
  · rw [if_neg h1]
    by_cases h2 : rho c = c
    · have : c ≠ max (rho x) (rho y) := by omega
      simp [h2, this]
    · simp [h2]

theorem roots_joined {rho : Nat → Nat} {m : Nat} (hr : ∀ c, rho c ≤ c ∧ rho (rho c) = rho c) (x y : Nat) (hx : x < m) (hy : y < m) (h : rho x ≠ rho y) : (roots (joined rho x y) m).length + 1 = (roots rho m).length := by
  have e : roots (joined rho x y) m = (List.range m).filter (fun c => (rho c == c) && c != max (rho x) (rho y)) := by
    unfold roots
    apply List.filter_congr
    intro c _
    exact joined_root hr x y h c
  rw [e]
  refine filter_ne (fun c => rho c == c) _ ?_ m ?_
  · rcases Nat.le_total (rho x) (rho y) with h1 | h1
    · simp [Nat.max_eq_right h1, (hr y).2]
    · simp [Nat.max_eq_left h1, (hr x).2]
  · have := (hr x).1; have := (hr y).1; omega

theorem joined_eq {rho : Nat → Nat} (hr : ∀ c, rho c ≤ c ∧ rho (rho c) = rho c) (x y : Nat) : joined rho x y x = joined rho x y y := by
  unfold joined
  by_cases h : rho x ≤ rho y
  · rw [Nat.max_eq_right h, Nat.min_eq_left h, if_pos rfl]
    split <;> rfl
  · have h2 : rho y ≤ rho x := by omega
    rw [Nat.max_eq_left h2, Nat.min_eq_right h2, if_pos rfl]
    split <;> rfl

set_option maxRecDepth 100000 in
set_option maxHeartbeats 2000000 in
theorem counts_big (nv : Int) (A : Option Addr) (n cap : Nat) (w : World) (hn : 40 < n) (hm : n ≤ 9223372036854775807) :
    Calls Try.prog 7 #[.int .u8 nv, .slice A n cap] w fun e w' => e = .returned (.bool true) ∧ Below w.heap.size w w' := by
  go_enter Try.func7, Try.ntmps7
  go_wp2_with fail
  refine (awake3 _).mono ?_
  rintro e w1 ⟨rfl, hB⟩
  have HB := Lib.hid hB
  clear hB
  go_wp2_with fail
  refine (awake3 _).mono ?_
  rintro e w2 ⟨rfl, hB⟩
  go_wp2
  go_ret
  exact ⟨rfl, HB.out.trans (hB.mono HB.out.size)⟩

set_option maxRecDepth 100000 in
set_option maxHeartbeats 8000000 in
theorem counts_law (N : Nat) (hN : N ≤ 255) (A : Option Addr) (cap : Nat) (ls : List (Int × Int)) (w : World) (hr : ReadsP .u8 w A ls) (hl : ls.length ≤ 40) :
    Calls Try.prog 7 #[.int .u8 N, .slice A ls.length cap] w fun e w' => e = .returned (.bool true) ∧ Below w.heap.size w w' := by
  have Hr := Lib.hid hr
  clear hr
  obtain ⟨n, hn⟩ : ∃ n, n = ls.length := ⟨_, rfl⟩
  rw [← hn] at hl ⊢
  have Hn := Lib.hid hn
  clear hn
  go_enter Try.func7, Try.ntmps7
  go_wp2_with fail
  refine (awake3 _).mono ?_
  rintro e wa ⟨rfl, hB⟩
  have HB := Lib.hid hB
  clear hB
  go_wp2_with fail
  obtain ⟨m, hm1⟩ : ∃ m : Nat, 1 + (N : Int) % 30 = m := ⟨1 + N % 30, by omega⟩
  rw [hm1]
  have hm0 : 0 < m := by omega
  have hm30 : m ≤ 30 := by omega
  clear hm1
  refine (new_any m (by omega) wa).mono ?_
  rintro e w1 ⟨rfl, h1, b1⟩
  have H1 := Lib.hid h1
  have B1 := Lib.hid b1
  clear h1 b1
  have hmi : (m : Int) ≠ 0 := by omega
  go_wp2
  go_loopw [7, 8] (fun s t wr => ∃ i J : Nat, ∃ rho : Nat → Nat, i ≤ n ∧ t = .int .i64 i ∧ s = .int .i64 J ∧ (roots rho m).length + J = m ∧ KnitAt wa.heap.size wr (wa.heap.size + 1) wa.heap.size m rho ∧ Below wa.heap.size wa wr) (fun _ t _ => n - (intOf t).toNat)
  case atStart => exact ⟨0, 0, _, by omega, rfl, rfl, by rw [← groups_len]; exact groups_id_len m, H1.out, B1.out⟩
  case round =>
    obtain ⟨i, J, rho, hi, rfl, rfl, hJ, hk, hb⟩ := hrel
    have Hroot := Lib.hid hk.root
    have H := Lib.hid hk
    have Bz := Lib.hid hb
    have HJ := Lib.hid hJ
    have hJm : J ≤ m := by omega
    clear hk hb hJ
    by_cases hlt : i < n
    · obtain ⟨b, off, rfl, hbl, p, q, hpq, c1, c2, wp1, wq1⟩ := Hr.out.place i (by rw [← Hn.out]; exact hlt)
      obtain ⟨hp1, hp2⟩ := bounds_u8 wp1
      obtain ⟨hq1, hq2⟩ := bounds_u8 wq1
      obtain ⟨u, hu, hu2, hum⟩ := rem_nat p m hp1 hm0
      obtain ⟨v, hv, hv2, hvm⟩ := rem_nat q m hq1 hm0
      have hbw : b < wa.heap.size := by have := HB.out.size; omega
      have e1 := (Bz.out.cell (p := ⟨b, off + i * 2, none⟩) hbw).trans ((HB.out.cell (p := ⟨b, off + i * 2, none⟩) hbl).trans c1)
      have e2 := (Bz.out.cell (p := ⟨b, off + i * 2 + 1, none⟩) hbw).trans ((HB.out.cell (p := ⟨b, off + i * 2 + 1, none⟩) hbl).trans c2)
      clear c1 c2 wp1 wq1 hpq
      have hii : (i : Int) < (n : Int) := by omega
      have hi0 : (0 : Int) ≤ (i : Int) := by omega
      by_cases hE : rho u = rho v
      · have dE := Lib.hid hE
        clear hE
        go_wp2_with fail
        refine (same_in u v H.out hum hvm).mono ?_
        rintro e wn ⟨rfl, hn1, kn⟩
        have Bn := Lib.hid (Bz.out.trans (H.out.belowB kn))
        have Hn1 := Lib.hid hn1
        clear hn1 kn H Bz
        have H := Hn1
        have Bz := Bn
        clear Hn1 Bn
        rw [show decide (rho u = rho v) = true by simp [dE.out]]
        go_wp2_with fail
        refine (join_in u v H.out hum hvm).mono ?_
        rintro e wn ⟨rfl, hn1, kn⟩
        have Bn := Lib.hid (Bz.out.trans (H.out.belowB kn))
        rw [joined_same u v dE.out] at hn1
        have Hn1 := Lib.hid hn1
        clear hn1 kn H Bz
        have H := Hn1
        have Bz := Bn
        clear Hn1 Bn
        rw [show decide (rho u ≠ rho v) = false by simp [dE.out]]
        go_wp2_with fail
        refine (same_in u v H.out hum hvm).mono ?_
        rintro e wn ⟨rfl, hn1, kn⟩
        have Bn := Lib.hid (Bz.out.trans (H.out.belowB kn))
        have Hn1 := Lib.hid hn1
        clear hn1 kn H Bz
        have H := Hn1
        have Bz := Bn
        clear Hn1 Bn
        rw [show decide (rho u = rho v) = true by simp [dE.out]]
        go_wp2_with fail
        refine (join_in v u H.out hvm hum).mono ?_
        rintro e wn ⟨rfl, hn1, kn⟩
        have Bn := Lib.hid (Bz.out.trans (H.out.belowB kn))
        rw [joined_same v u dE.out.symm] at hn1
        have Hn1 := Lib.hid hn1
        clear hn1 kn H Bz
        have H := Hn1
        have Bz := Bn
        clear Hn1 Bn
        rw [show decide (rho v ≠ rho u) = false by simp [dE.out]]
        go_wp2_with fail
        refine (groups_any _ H.out).mono ?_
        rintro e wn ⟨vg, vsg, rfl, hR, hn1, kn⟩
        have Bn := Lib.hid (Bz.out.trans (H.out.belowB kn))
        have Hn1 := Lib.hid hn1
        obtain ⟨ag, cg, rfl⟩ := hR.form
        rw [groups_len]
        clear hn1 kn H Bz hR
        have H := Hn1
        have Bz := Bn
        clear Hn1 Bn
        obtain ⟨R, hR⟩ : ∃ R, R = (roots rho m).length := ⟨_, rfl⟩
        rw [← hR]
        have hRJ : (m : Int) - (J : Int) = (R : Int) := by have := HJ.out; omega
        clear hR
        go_wp2
        go_roundw
        case rel => exact ⟨i + 1, J, rho, by omega, by go_num, rfl, HJ.out, H.out, Bz.out⟩
        case measure => simp [intOf]; omega
      · have dE := Lib.hid hE
        clear hE
        go_wp2_with fail
        refine (same_in u v H.out hum hvm).mono ?_
        rintro e wn ⟨rfl, hn1, kn⟩
        have Bn := Lib.hid (Bz.out.trans (H.out.belowB kn))
        have Hn1 := Lib.hid hn1
        clear hn1 kn H Bz
        have H := Hn1
        have Bz := Bn
        clear Hn1 Bn
        rw [show decide (rho u = rho v) = false by simp [dE.out]]
        go_wp2_with fail
        refine (join_in u v H.out hum hvm).mono ?_
        rintro e wn ⟨rfl, hn1, kn⟩
        have Bn := Lib.hid (Bz.out.trans (H.out.belowB kn))
        have Hn1 := Lib.hid hn1
        clear hn1 kn H Bz
        have H := Hn1
        have Bz := Bn
        clear Hn1 Bn
        rw [show decide (rho u ≠ rho v) = true by simp [dE.out]]
        obtain ⟨rho2, hrho2⟩ : ∃ rho2, rho2 = joined rho u v := ⟨_, rfl⟩
        have H0 := H.out
        rw [← hrho2] at H0
        have dF : Hid (rho2 u = rho2 v) := Lib.hid (by rw [hrho2]; exact joined_eq Hroot.out u v)
        have HJ2 : Hid ((roots rho2 m).length + 1 = (roots rho m).length) := Lib.hid (by rw [hrho2]; exact roots_joined Hroot.out u v hum hvm dE.out)
        clear hrho2 H
        have H := Lib.hid H0
        clear H0
        go_wp2_with fail
        refine (same_in u v H.out hum hvm).mono ?_
        rintro e wn ⟨rfl, hn1, kn⟩
        have Bn := Lib.hid (Bz.out.trans (H.out.belowB kn))
        have Hn1 := Lib.hid hn1
        clear hn1 kn H Bz
        have H := Hn1
        have Bz := Bn
        clear Hn1 Bn
        rw [show decide (rho2 u = rho2 v) = true by simp [dF.out]]
        go_wp2_with fail
        refine (join_in v u H.out hvm hum).mono ?_
        rintro e wn ⟨rfl, hn1, kn⟩
        have Bn := Lib.hid (Bz.out.trans (H.out.belowB kn))
        rw [joined_same v u dF.out.symm] at hn1
        have Hn1 := Lib.hid hn1
        clear hn1 kn H Bz
        have H := Hn1
        have Bz := Bn
        clear Hn1 Bn
        rw [show decide (rho2 v ≠ rho2 u) = false by simp [dF.out]]
        go_wp2_with fail
        refine (groups_any _ H.out).mono ?_
        rintro e wn ⟨vg, vsg, rfl, hR, hn1, kn⟩
        have Bn := Lib.hid (Bz.out.trans (H.out.belowB kn))
        have Hn1 := Lib.hid hn1
        obtain ⟨ag, cg, rfl⟩ := hR.form
        rw [groups_len]
        clear hn1 kn H Bz hR
        have H := Hn1
        have Bz := Bn
        clear Hn1 Bn
        obtain ⟨R, hR⟩ : ∃ R, R = (roots rho2 m).length := ⟨_, rfl⟩
        rw [← hR]
        have hRJ : Hid (R + (J + 1) = m) := Lib.hid (by rw [hR]; have := HJ2.out; have := HJ.out; omega)
        have hRJ2 : (m : Int) - ((J : Int) + 1) = (R : Int) := by have := hRJ.out; omega
        have HR := Lib.hid hR
        clear hR
        go_wp2
        go_roundw
        case rel => exact ⟨i + 1, J + 1, rho2, by omega, by go_num, by go_num, by rw [← HR.out]; exact hRJ.out, H.out, Bz.out⟩
        case measure => simp [intOf]; omega
    · go_wp2
      go_ret
      exact ⟨rfl, HB.out.trans (Bz.out.mono HB.out.size)⟩

theorem counts_lawI (n : Int) (hn1 : 0 ≤ n) (hn2 : n ≤ 255) (A : Option Addr) (cap : Nat) (ls : List (Int × Int)) (w : World) (hr : ReadsP .u8 w A ls) (hm : ls.length ≤ 9223372036854775807) :
    Calls Try.prog 7 #[.int .u8 n, .slice A ls.length cap] w fun e w' => e = .returned (.bool true) ∧ Below w.heap.size w w' := by
  obtain ⟨N, rfl⟩ : ∃ N : Nat, n = N := ⟨n.toNat, by omega⟩
  by_cases hl : ls.length ≤ 40
  · exact counts_law N (by omega) A cap ls w hr hl
  · exact counts_big N A ls.length cap w (by omega) hm

end Go.Proofs.Ythpcaamfcmjnmaa
