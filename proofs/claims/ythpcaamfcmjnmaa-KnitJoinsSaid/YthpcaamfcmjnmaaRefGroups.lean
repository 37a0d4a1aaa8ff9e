/-
  What the document's own Groups comes to: the groups by a list of pairs, by their smallest elements, each in increasing order.
  Conditions: at most 1000 elements.
-/
import Derived.Test.YthpcaamfcmjnmaaRefMem
import Derived.Deep.CutRange
namespace Go.Proofs.Ythpcaamfcmjnmaa
open Go.RowKit
set_option linter.unusedVariables false

theorem below_drewN' {B : Nat} {a w : World} (h : Below B a w) (n : Nat) : Below B a (w.drewN n) := ⟨h.os, h.tape, h.output, h.size, h.block⟩

theorem take_at2 (ls : List (Int × Int)) (k : Nat) (h : k < ls.length) : ls.take (k + 1) = ls.take k ++ [at2 ls k] := by
  rw [List.take_add_one]; simp [at2, h]

theorem foldl_take (m : Nat) (ls : List (Int × Int)) (f : Nat → Nat) (k : Nat) (h : k < ls.length) : (ls.take (k + 1)).foldl (relax m) f = relax m ((ls.take k).foldl (relax m) f) (at2 ls k) := by
  rw [take_at2 ls k h, List.foldl_append]; rfl

theorem relax_in {m : Nat} {f : Nat → Nat} {a b : Nat} (ha : a < m) (hb : b < m) : relax m f ((a : Int), (b : Int)) = if f a < f b then lay f b (f a) else lay f a (f b) := by
  unfold relax
  rw [if_pos (by unfold InR; simp; omega)]
  simp

theorem relax_out {m : Nat} {f : Nat → Nat} {p : Int × Int} (h : ¬ InR m p) : relax m f p = f := by unfold relax; rw [if_neg h]

/-- the elements of group r -/
def grp (rho : Nat → Nat) (m r : Nat) : List Nat := (List.range m).filter (fun c => rho c == r)

/-- the elements of group r below k -/
theorem grp_step (rho : Nat → Nat) (k r : Nat) : grp rho (k + 1) r = grp rho k r ++ (if rho k = r then [k] else []) := range_filter_succ rho k r

theorem grp_le (rho : Nat → Nat) (m r : Nat) : (grp rho m r).length ≤ m := by
  have := List.length_filter_le (fun c => rho c == r) (List.range m)
  simpa [grp] using this

theorem grp_some {rho : Nat → Nat} {m r : Nat} (hr : rho r = r) (h : r < m) : 0 < (grp rho m r).length := by
  apply List.length_pos_of_mem (a := r)
  simp [grp, h, hr]

theorem grp_none {rho : Nat → Nat} (hroot : ∀ c, rho c ≤ c ∧ rho (rho c) = rho c) {m r : Nat} (hr : rho r ≠ r) : grp rho m r = [] := by
  unfold grp
  rw [List.filter_eq_nil_iff]
  intro c hc
  simp
  intro e
  have := (hroot c).2
  rw [e] at this
  exact hr this

set_option maxRecDepth 100000 in
set_option maxHeartbeats 8000000 in
theorem ref_groups (m : Nat) (hm : m ≤ 1000) (done : List (Int × Int)) (A : Option Addr) (cap : Nat) (rho : Nat → Nat) (hk : Knits m done rho) (w : World) (hr : ReadsP .i64 w A done) (hl : done.length ≤ 1000) :
    Calls Try.prog 17 #[.int .i64 m, .slice A done.length cap] w fun e w' => ∃ v vs, e = .returned v ∧ Rows2 w.heap.size w' v vs (groupsOf rho m) ∧ Below w.heap.size w w' := by
  have Hk := Lib.hid hk
  have Hr := Lib.hid hr
  clear hk hr
  obtain ⟨n, hn⟩ : ∃ n, n = done.length := ⟨_, rfl⟩
  rw [← hn] at hl ⊢
  have Hn := Lib.hid hn
  clear hn
  obtain ⟨w1, hmk, hL1, hB1⟩ := run_make_labels m (by omega) w
  have L1 := Lib.hid hL1
  have B1 := Lib.hid hB1
  clear hL1 hB1
  go_enter Try.func17, Try.ntmps17
  go_wp2
  go_loopw [6] (fun t wr => ∃ i : Nat, ∃ f : Nat → Nat, i ≤ m ∧ t = .int .i64 i ∧ (∀ c, c < i → f c = c) ∧ LabelAt w.heap.size wr w.heap.size m f ∧ Below w.heap.size w wr) (fun t _ => m - (intOf t).toNat)
  case atStart => exact ⟨0, _, by omega, rfl, fun c h => by omega, L1.out, B1.out⟩
  case round =>
    obtain ⟨i, f, hi, rfl, hf, hL, hB⟩ := hrel
    have L := Lib.hid hL
    have Bz := Lib.hid hB
    have Hf := Lib.hid hf
    clear hL hB hf
    by_cases hlt : i < m
    · have c1 := L.out.cell i hlt
      have f1 := L.out.frozen i
      have hii : (i : Int) < (m : Int) := by omega
      have N := Lib.hid (L.out.lay i i)
      go_wp2
      go_roundw
      case rel => exact ⟨i + 1, _, by omega, by go_num, fun c h => by unfold lay; split; (rename_i e; exact e.symm); exact Hf.out c (by omega), N.out.1, Bz.out.trans (N.out.2.below (fun k e => by omega) (by have := Bz.out.size; exact this))⟩
      case measure => simp [intOf]; omega
    · obtain rfl : m = i := by omega
      have L0 := Lib.hid (L.out.congr (g := sweeps m done 0) (fun c hc => Hf.out c hc))
      clear L Hf
      go_wp2
      go_loopw [7] (fun t wr => ∃ q : Nat, q ≤ m ∧ t = .int .i64 q ∧ LabelAt w.heap.size wr w.heap.size m (sweeps m done q) ∧ Below w.heap.size w wr) (fun t _ => m - (intOf t).toNat)
      case atStart => exact ⟨0, by omega, rfl, L0.out, Bz.out⟩
      case round =>
        obtain ⟨q, hq, rfl, hL, hB⟩ := hrel
        have Lq := Lib.hid hL
        have Bq := Lib.hid hB
        clear hL hB
        by_cases hqm : q < m
        · go_wp2
          go_loopw [8] (fun t wr => ∃ k : Nat, k ≤ n ∧ t = .int .i64 k ∧ LabelAt w.heap.size wr w.heap.size m ((done.take k).foldl (relax m) (sweeps m done q)) ∧ Below w.heap.size w wr) (fun t _ => n - (intOf t).toNat)
          case atStart => exact ⟨0, by omega, rfl, by simpa using Lq.out, Bq.out⟩
          case round =>
            obtain ⟨k, hk, rfl, hL, hB⟩ := hrel
            obtain ⟨f, hf⟩ : ∃ f, f = (done.take k).foldl (relax m) (sweeps m done q) := ⟨_, rfl⟩
            rw [← hf] at hL
            have L := Lib.hid hL
            have Bk := Lib.hid hB
            have Hf := Lib.hid hf
            clear hL hB hf
            by_cases hkn : k < n
            · have hkd : k < done.length := by rw [← Hn.out]; exact hkn
              obtain ⟨b, off, hA, hbl, x, y, hxy, c1, c2, wx, wy⟩ := Hr.out.place k hkd
              subst hA
              have e1 := (Bk.out.cell (p := ⟨b, off + k * 2, none⟩) hbl).trans c1
              have e2 := (Bk.out.cell (p := ⟨b, off + k * 2 + 1, none⟩) hbl).trans c2
              have HS : Hid ((done.take (k + 1)).foldl (relax m) (sweeps m done q) = relax m f (x, y)) := Lib.hid (by rw [foldl_take m done _ k hkd, hxy, Hf.out])
              clear c1 c2 wx wy hxy hkd
              have hki : (k : Int) < (n : Int) := by omega
              by_cases h1 : x < 0
              · have hd1 : decide (x < 0) = true := by simpa using h1
                go_wp2
                go_roundw
                case rel => exact ⟨k + 1, by omega, by go_num, by rw [HS.out, relax_out (by unfold InR; omega)]; exact L.out, Bk.out⟩
                case measure => simp [intOf]; omega
              by_cases h2 : (m : Int) ≤ x
              · go_wp2
                go_roundw
                case rel => exact ⟨k + 1, by omega, by go_num, by rw [HS.out, relax_out (by unfold InR; omega)]; exact L.out, Bk.out⟩
                case measure => simp [intOf]; omega
              by_cases h3 : y < 0
              · go_wp2
                go_roundw
                case rel => exact ⟨k + 1, by omega, by go_num, by rw [HS.out, relax_out (by unfold InR; omega)]; exact L.out, Bk.out⟩
                case measure => simp [intOf]; omega
              by_cases h4 : (m : Int) ≤ y
              · go_wp2
                go_roundw
                case rel => exact ⟨k + 1, by omega, by go_num, by rw [HS.out, relax_out (by unfold InR; omega)]; exact L.out, Bk.out⟩
                case measure => simp [intOf]; omega
              obtain ⟨a, rfl⟩ : ∃ a : Nat, x = a := ⟨x.toNat, by omega⟩
              obtain ⟨c, rfl⟩ : ∃ c : Nat, y = c := ⟨y.toNat, by omega⟩
              have ham : a < m := by omega
              have hcm : c < m := by omega
              have hami : (a : Int) < (m : Int) := by omega
              have hcmi : (c : Int) < (m : Int) := by omega
              have g1 := L.out.cell a ham
              have g2 := L.out.cell c hcm
              have HR := Lib.hid HS.out
              rw [relax_in ham hcm] at HR
              clear HS h1 h2 h3 h4
              by_cases hlt2 : f a < f c
              · have HR2 := Lib.hid HR.out
                rw [if_pos hlt2] at HR2
                have hlti : (f a : Int) < (f c : Int) := by omega
                have fz := L.out.frozen c
                go_wp2
                go_quiet (fail)
                have N := Lib.hid ((L.out.drewN nq).lay c (f a))
                go_wp2
                go_roundw
                case rel => exact ⟨k + 1, by omega, by go_num, by rw [HR2.out]; exact N.out.1, (below_drewN' Bk.out nq).trans (N.out.2.below (fun k e => by omega) (by have := Bk.out.size; exact this))⟩
                case measure => simp [intOf]; omega
              · have HR2 := Lib.hid HR.out
                rw [if_neg hlt2] at HR2
                have hlti : ¬ (f a : Int) < (f c : Int) := by omega
                have fz := L.out.frozen a
                go_wp2
                go_quiet (fail)
                have N := Lib.hid ((L.out.drewN nq).lay a (f c))
                go_wp2
                go_roundw
                case rel => exact ⟨k + 1, by omega, by go_num, by rw [HR2.out]; exact N.out.1, (below_drewN' Bk.out nq).trans (N.out.2.below (fun k e => by omega) (by have := Bk.out.size; exact this))⟩
                case measure => simp [intOf]; omega
            · obtain rfl : n = k := by omega
              go_wp2
              go_roundw
              case rel => exact ⟨q + 1, by omega, by go_num, by
                have e := L.out
                rw [Hf.out, List.take_of_length_le (by rw [Hn.out]; exact Nat.le_refl _)] at e
                exact e, Bk.out⟩
              case measure => simp [intOf]; omega
        · obtain rfl : m = q := by omega
          have LR := Lib.hid (Lq.out.congr (g := rho) (fun c hc => sweeps_end Hk.out c hc))
          have Hroot := Lib.hid Hk.out.root
          clear Lq L0 L1
          go_wp2
          go_loopw [11, 12] (fun s t wr => ∃ i : Nat, ∃ vs : List Value, i ≤ m ∧ t = .int .i64 i ∧ Rows2 (w.heap.size + 1) wr s vs ((roots rho i).map (grp rho m)) ∧ LabelAt w.heap.size wr w.heap.size m rho ∧ Below w.heap.size w wr) (fun _ t _ => m - (intOf t).toNat)
          case atStart => exact ⟨0, [], by omega, rfl, Rows2.nil _ _, LR.out, Bq.out⟩
          case round =>
            obtain ⟨i, vs, hi, rfl, hR, hL, hB⟩ := hrel
            obtain ⟨G, hG⟩ : ∃ G, G = (roots rho i).map (grp rho m) := ⟨_, rfl⟩
            rw [← hG] at hR
            have hGl : G.length ≤ i := by rw [hG]; simpa using roots_len_le rho i
            obtain ⟨av, cv, hsv⟩ := hR.form
            subst hsv
            have R := Lib.hid hR
            have L := Lib.hid hL
            have Bi := Lib.hid hB
            have HG := Lib.hid hG
            clear hR hL hB hG
            obtain ⟨gl, hgl⟩ : ∃ gl, gl = G.length := ⟨_, rfl⟩
            rw [← hgl] at hGl
            have Hgl := Lib.hid hgl
            simp only [← hgl] at R ⊢
            clear hgl
            by_cases him : i < m
            · go_wp2
              go_loopw [13, 14] (fun s t wr => ∃ k : Nat, k ≤ m ∧ t = .int .i64 k ∧ OutRow (w.heap.size + 1) wr (.slice av gl cv) vs G s (grp rho k i) ∧ LabelAt w.heap.size wr w.heap.size m rho ∧ Below w.heap.size w wr) (fun _ t _ => m - (intOf t).toNat)
              case atStart => exact ⟨0, by omega, rfl, OutRow.start R.out, L.out, Bi.out⟩
              case round =>
                obtain ⟨k, hk, rfl, hO, hL, hB⟩ := hrel
                obtain ⟨al, cl, hlv⟩ := own_form hO.own
                subst hlv
                obtain ⟨ll, hll⟩ : ∃ ll, ll = (grp rho k i).length := ⟨_, rfl⟩
                have O := Lib.hid hO
                have Lk := Lib.hid hL
                have Bk := Lib.hid hB
                have hllk : ll ≤ k := by rw [hll]; exact grp_le rho k i
                have Hll := Lib.hid hll
                simp only [← hll] at O ⊢
                clear hO hL hB hll
                have hbig : w.heap.size + 1 ≤ wr.heap.size := by have := Lk.out.at.2; omega
                by_cases hkm : k < m
                · have c1 := Lk.out.cell k hkm
                  have hki : (k : Int) < (m : Int) := by omega
                  by_cases hri : rho k = i
                  · have hro : (rho k : Int) = (i : Int) := by omega
                    have Hri := Lib.hid hri
                    obtain ⟨v3, w3, hr3, ho3, hk3, hv3⟩ := run_push_int 46 k O.out.own (by rw [← Hll.out]; omega) hbig
                    have O2 := Lib.hid (O.out.add ho3 hk3 hv3)
                    have L2 := Lib.hid (Lk.out.kept hk3 (fun e => by have := (O.out.own.lt _ e).1; omega))
                    have B2 := Lib.hid (Bk.out.trans (hk3.below (fun j e => by have := (O.out.own.lt j e).1; omega) Bk.out.size))
                    have HS : Hid (grp rho (k + 1) i = grp rho k i ++ [k]) := Lib.hid (by rw [grp_step, if_pos Hri.out])
                    clear ho3 hk3 hv3 hri
                    go_wp2_with (at_builtin; refine wpList_append_eq rfl (.tmp 102) (.tmp 104) 46 rfl rfl rfl hr3 ?_)
                    go_roundw
                    case rel => exact ⟨k + 1, by omega, by go_num, by rw [HS.out]; exact O2.out, L2.out, B2.out⟩
                    case measure => simp [intOf]; omega
                  · have hro : ¬ (rho k : Int) = (i : Int) := by omega
                    have hbe : ((rho k : Int) == (i : Int)) = false := by simpa using hro
                    have HS : Hid (grp rho (k + 1) i = grp rho k i) := Lib.hid (by rw [grp_step, if_neg hri]; simp)
                    go_wp2
                    go_roundw
                    case rel => exact ⟨k + 1, by omega, by go_num, by rw [HS.out]; exact O.out, Lk.out, Bk.out⟩
                    case measure => simp [intOf]; omega
                · obtain rfl : m = k := by omega
                  by_cases hri : rho i = i
                  · have hpos : (0 : Int) < (ll : Int) := by rw [Hll.out]; have := grp_some hri him; omega
                    obtain ⟨v3, w3, hr3, ho3, hk3, hv3⟩ := run_push_row (lv := .slice al ll cl) 41 O.out.rows.out rfl (by rw [← Hgl.out]; omega) hbig
                    have R2 := Lib.hid (O.out.close ho3 hk3 hv3)
                    have L2 := Lib.hid (Lk.out.kept hk3 (fun e => by have := (O.out.rows.out.lt _ e).1; omega))
                    have B2 := Lib.hid (Bk.out.trans (hk3.below (fun j e => by have := (O.out.rows.out.lt j e).1; omega) Bk.out.size))
                    have HS : Hid ((roots rho (i + 1)).map (grp rho m) = G ++ [grp rho m i]) := Lib.hid (by rw [roots_succ, if_pos hri, List.map_append, HG.out]; rfl)
                    have Hri := Lib.hid hri
                    clear ho3 hk3 hv3 hri
                    go_wp2_with (at_builtin; refine wpList_append_eq rfl (.tmp 109) (.tmp 111) 41 rfl rfl rfl hr3 ?_)
                    go_roundw
                    case rel => exact ⟨i + 1, _, by omega, by go_num, by rw [HS.out]; exact R2.out, L2.out, B2.out⟩
                    case measure => simp [intOf]; omega
                  · have hl0 : Hid (ll = 0) := Lib.hid (by rw [Hll.out, grp_none Hroot.out hri]; rfl)
                    have hneg : ¬ (0 : Int) < (ll : Int) := by rw [hl0.out]; simp
                    have HS : Hid ((roots rho (i + 1)).map (grp rho m) = G) := Lib.hid (by rw [roots_succ, if_neg hri, HG.out]; simp)
                    go_wp2
                    go_roundw
                    case rel => exact ⟨i + 1, _, by omega, by go_num, by rw [HS.out]; exact O.out.rows, Lk.out, Bk.out⟩
                    case measure => simp [intOf]; omega
            · obtain rfl : m = i := by omega
              go_wp2
              go_ret
              exact ⟨_, vs, rfl, by
                have := R.out.mono (Nat.le_succ w.heap.size)
                rw [HG.out] at this
                exact this, Bi.out⟩

end Go.Proofs.Ythpcaamfcmjnmaa
