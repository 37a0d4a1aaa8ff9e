/-
  The law TrayRings, walked: it returns true for every bound and every list of acts.
  Conditions: each act is a byte.
-/
import Derived.Test.YtgombejncjcjhaaHave
import Derived.OpenShut
import Derived.ChangeOld
namespace Go.Proofs.Ytgombejncjcjhaa
open Go.RowKit
set_option linter.unusedVariables false

/-- What the walk is told of a slice of integers that came in: it is nil; or it leads to a row of 'cap' cells, the numbers 'zs', of which the first 'len' are its elements, each fitting its kind. -/
def IsRow (k : IntKind) (w : World) (a : Option Addr) (len cap : Nat) (zs : List Int) : Prop :=
  (a = none ∧ len = 0 ∧ cap = 0 ∧ zs = []) ∨
  ∃ x, a = some x ∧ len ≤ cap ∧ cap ≤ maxLen ∧ zs.length = cap ∧ (∀ i, i < zs.length → w.cell? (x.add i) = some (.int k (zs.getD i 0))) ∧ ∀ n ∈ zs, (Lit.int k n).wf = true

/-- the byte at a place of such a slice -/
theorem IsRow.byte {w : World} {a : Option Addr} {len cap : Nat} {zs : List Int} (h : IsRow .u8 w a len cap zs) (i : Nat) (hi : i < len) :
    ∃ b off z, a = some ⟨b, off, none⟩ ∧ b < w.heap.size ∧ w.cell? ⟨b, off + i, none⟩ = some (.int .u8 z) ∧ 0 ≤ z ∧ z ≤ 255 := by
  rcases h with ⟨_, rfl, _⟩ | ⟨x, rfl, hl, hc, hz, hcell, hwf⟩
  · omega
  · obtain ⟨b, off, rfl, hc2⟩ := ints_at hcell (by omega)
    have hm : zs.getD i 0 ∈ zs := by simp [show i < zs.length by omega]
    have hb := bounds_u8 (hwf _ hm)
    exact ⟨b, off, zs.getD i 0, rfl, World.block_lt_of_cell? w _ (hc2 i (by omega)), hc2 i (by omega), hb.1, hb.2⟩

theorem IsRow.max {k : IntKind} {w : World} {a : Option Addr} {len cap : Nat} {zs : List Int} (h : IsRow k w a len cap zs) : len ≤ 9223372036854775807 := by
  rcases h with ⟨_, rfl, _⟩ | ⟨x, rfl, hl, hc, _⟩
  · omega
  · unfold maxLen at hc; omega

theorem slen_nil (w : World) : Calls Try.prog 41 #[.pointer none] w fun e w' => e = .returned (.int .i64 0) ∧ w = w' := by
  go_enter Try.func41, Try.ntmps41
  go_wp2
  go_ret
  exact ⟨rfl, rfl⟩

theorem spop_nil (w : World) : Calls Try.prog 39 #[.pointer none] w fun e w' => e = .returned (.tuple #[.string ByteArray.empty, .bool false]) ∧ w = w' := by
  go_enter Try.func39, Try.ntmps39
  go_wp2_with fail
  refine (slen_nil _).mono ?_
  rintro e w' ⟨rfl, rfl⟩
  go_wp2
  go_ret2
  exact ⟨rfl, rfl⟩

theorem spush_nil (s : ByteArray) (w : World) : Calls Try.prog 40 #[.pointer none, .string s] w fun e w' => e = .returned (.bool false) ∧ ∃ k, w' = w.drewN k := by
  go_enter Try.func40, Try.ntmps40
  go_wp2
  go_quiet (fail)
  go_wp2
  go_ret
  exact ⟨rfl, _, rfl⟩

theorem ring_new_neg (w : World) :
    Calls Try.prog 35 #[.int .i64 (-5)] w fun e w' => e = .returned (.pointer (some ⟨w.heap.size, 0, none⟩)) ∧ RingAt w' w.heap.size none [] 0 0 0 ∧ Below w.heap.size w w' := by
  go_enter Try.func35, Try.ntmps35
  go_wp2
  go_ret
  refine ⟨rfl, ⟨?_, .inl ⟨rfl, rfl⟩, .inr ⟨rfl, rfl⟩, Nat.le_refl _, by simp⟩, (Below.refl _ _).alloc (Nat.le_refl _) _⟩
  exact heap_alloc_new w _

theorem ninth (c : Int) : ∃ m : Nat, wrap64 ((IntKind.u64.wrap c).tmod 9) = (m : Int) ∧ m ≤ 8 := by
  have h0 : 0 ≤ IntKind.u64.wrap c := by simp [IntKind.wrap, IntKind.signed, IntKind.bits]; omega
  rw [Int.tmod_eq_emod_of_nonneg h0]
  refine ⟨(IntKind.u64.wrap c % 9).toNat, ?_, by omega⟩
  unfold wrap64
  omega

set_option maxRecDepth 100000 in
set_option maxHeartbeats 4000000 in
theorem rings_law (c : Int) (hc1 : -9223372036854775808 ≤ c) (hc2 : c ≤ 9223372036854775807) (A : Option Addr) (n cap : Nat) (zs : List Int) (w : World) (hr : IsRow .u8 w A n cap zs) :
    Calls Try.prog 14 #[.int .i64 c, .slice A n cap] w fun e w' => e = .returned (.bool true) ∧ Below w.heap.size w w' := by
  have hmax := hr.max
  have Hr := Lib.hid hr
  clear hr
  by_cases hl : n ≤ 60
  · obtain ⟨m, hm, hm8⟩ := ninth c
    go_enter Try.func14, Try.ntmps14
    go_wp2_with fail
    refine (awake2 _).mono ?_
    rintro e wa ⟨rfl, hB⟩
    have HB := Lib.hid hB
    clear hB
    go_wp2_with fail
    refine (ring_new m _ (by omega)).mono ?_
    rintro e w1 ⟨rfl, h1, b1⟩
    have Q1 : Hid (QueueU (fun k => wa.heap.size ≤ k ∧ (Value.slice none 0 0).ownBlock ≠ some k) w1 wa.heap.size m []) := Lib.hid ⟨none, [], 0, h1, fun i hi => by simp at hi, (by rintro k (rfl | ⟨a, e, _⟩); exact ⟨Nat.le_refl _, by simp [Value.ownBlock]⟩; cases e), fun _ => rfl⟩
    have B1 := Lib.hid b1
    clear h1 b1
    go_wp2
    try rw [hm]
    clear hm
    go_loopw [7, 8] (fun sv si wr => ∃ i : Nat, ∃ ls : List Int, i ≤ n ∧ si = .int .i64 i ∧ ls.length ≤ m ∧ QueueU (fun k => wa.heap.size ≤ k ∧ sv.ownBlock ≠ some k) wr wa.heap.size m ls ∧ HaveAt wr sv ls ∧ (∀ k, sv.ownBlock = some k → wa.heap.size ≤ k) ∧ Below wa.heap.size wa wr) (fun _ si _ => n - (intOf si).toNat)
    case atStart => exact ⟨0, [], Nat.zero_le _, rfl, Nat.zero_le _, Q1.out, .inl ⟨rfl, rfl⟩, fun k h => by simp [Value.ownBlock] at h, B1.out⟩
    case round =>
      obtain ⟨i, ls, hi, rfl, hlm, hq, hh, hvb, hbl⟩ := hrel
      obtain ⟨av, cv, hv⟩ := hh.form
      subst hv
      have Qh := Lib.hid hq
      have Hh := Lib.hid hh
      have Hvb := Lib.hid hvb
      have Bl := Lib.hid hbl
      clear hq hh hvb hbl
      by_cases hlt : i < n
      · obtain ⟨b, off, z, hA, hb1, hcz, hz0, hz1⟩ := Hr.out.byte i hlt
        subst hA
        have cz := (Bl.out.cell (p := ⟨b, off + i, none⟩) (by have := HB.out.size; show b < _; omega)).trans ((HB.out.cell (p := ⟨b, off + i, none⟩) hb1).trans hcz)
        clear hcz
        by_cases hev : z % 2 = 0
        · have hevb : (z % 2 == 0) = true := by rw [beq_iff_eq]; exact hev
          clear hev
          by_cases hfull : ls.length < m
          · have hd : decide ((ls.length : Int) < (m : Int)) = true := by simp; omega
            have hd2 : decide (ls.length < m) = true := by simp; omega
            go_wp2_with fail
            refine (queueU_push _ wa.heap.size m ls (i : Int) _ Qh.out hfull (by omega)).mono ?_
            rintro e w2 ⟨rfl, q2, k2⟩
            have H2 := Lib.hid (Hh.out.kept k2 (fun k hk hU => hU.2 hk))
            have Q2 : Hid (QueueU (fun k => wa.heap.size ≤ k ∧ (Value.slice av ls.length cv).ownBlock ≠ some k) w2 wa.heap.size m (ls ++ [(i : Int)])) := Lib.hid (q2.mono (by
              rintro k _ (hk | hk)
              · exact hk
              · exact ⟨by have := Bl.out.size; omega, fun e => by have := Hh.out.lt e; omega⟩))
            have B2 := Lib.hid (Bl.out.trans (k2.below (fun k hk => hk.1) Bl.out.size))
            clear q2 k2
            go_wp2_with (at_builtin; refine wpList_have rfl (.tmp 51) (.tmp 53) rfl (.slice av ls.length cv) ls rfl (H2.out.alloc _) ⟨w2.heap.size, 0, none⟩ (i : Int) 1 rfl (by rw [cell_of_row _ _ 0 _ _ (0, 0) (heap_alloc_new w2 _)]; rfl) (by omega) ?_; intro v3 w3 hh3 hk3 hv3)
            obtain ⟨a3, c3, he3⟩ := hh3.form
            subst he3
            have H3 := Lib.hid hh3
            have Q3 : Hid (QueueU (fun k => wa.heap.size ≤ k ∧ (Value.slice a3 (ls ++ [(i : Int)]).length c3).ownBlock ≠ some k) w3 wa.heap.size m (ls ++ [(i : Int)])) := Lib.hid (by
              have q := ((Q2.out.mono (V := fun k => (wa.heap.size ≤ k ∧ (Value.slice av ls.length cv).ownBlock ≠ some k) ∧ k < w2.heap.size) (fun k hk h => ⟨h, hk⟩)).kept (S := fun _ => False) ((Kept.refl _ w2).alloc (.cells #[.int .i64 (i : Int)] 3)) (fun _ _ h => h)).kept hk3 (fun k hk e => hk.1.2 e)
              exact q.mono (fun k _ hk => ⟨hk.1.1, fun e => by
                rcases hv3 k e with e2 | e2
                · exact hk.1.2 e2
                · simp at e2; omega⟩))
            have B3 := Lib.hid ((B2.out.alloc B2.out.size _).trans (hk3.below (B := wa.heap.size) (fun k hk => Hvb.out k hk) (by have := B2.out.size; simp; omega)))
            have V3 : Hid (∀ k, (Value.slice a3 (ls ++ [(i : Int)]).length c3).ownBlock = some k → wa.heap.size ≤ k) := Lib.hid (fun k e => by
              rcases hv3 k e with e2 | e2
              · exact Hvb.out k e2
              · have := B2.out.size; simp at e2; omega)
            have LQ := Lib.hid (queue_len wa.heap.size wa.heap.size m _ w3 (Q3.out.plain (fun _ h => h.1)))
            clear hh3 hk3 hv3
            refine LQ.out.mono ?_
            rintro e w' ⟨rfl, rfl⟩
            go_wp2
            go_roundw
            case rel =>
              have hl3 : (ls ++ [(i : Int)]).length = ls.length + 1 := by simp
              have q3 := Q3.out
              have h3 := H3.out
              have v3 := V3.out
              rw [hl3] at q3 h3 v3
              exact ⟨i + 1, ls ++ [(i : Int)], by omega, by go_num, by rw [hl3]; omega, q3, h3, v3, B3.out⟩
            case measure => simp [intOf]; omega
          · have hd : decide ((ls.length : Int) < (m : Int)) = false := by simp; omega
            have hd2 : decide (ls.length < m) = false := by simp; omega
            go_wp2_with fail
            refine (queue_full wa.heap.size wa.heap.size m ls (i : Int) _ (Qh.out.plain (fun _ h => h.1)) (by omega)).mono ?_
            rintro e w2 ⟨rfl, k0, rfl⟩
            have LQ := Lib.hid (queue_len wa.heap.size wa.heap.size m _ (wr.drewN k0) ((Qh.out.plain (fun _ h => h.1)).below (below_drewN (Below.refl _ _) k0)))
            go_wp2_with fail
            refine LQ.out.mono ?_
            rintro e w' ⟨rfl, rfl⟩
            go_wp2
            go_roundw
            case rel => exact ⟨i + 1, ls, by omega, by go_num, hlm, Qh.out.kept (S := fun _ => False) ((Kept.refl _ wr).drewN k0) (fun _ _ h => h), Hh.out.kept (S := fun _ => False) ((Kept.refl _ wr).drewN k0) (fun _ _ h => h), Hvb.out, below_drewN Bl.out k0⟩
            case measure => simp [intOf]; omega
        · have hevb : (z % 2 == 0) = false := by rw [beq_eq_false_iff_ne]; exact hev
          clear hev
          cases ls with
          | nil =>
            have Hh0 := Lib.hid Hh.out
            simp only [List.length_nil] at Hh Qh Hvb ⊢
            go_wp2_with fail
            refine (queue_pop_empty wa.heap.size wa.heap.size m _ (Qh.out.plain (fun _ h => h.1))).mono ?_
            rintro e w2 ⟨rfl, rfl⟩
            have LQ := Lib.hid (queue_len wa.heap.size wa.heap.size m _ wr (Qh.out.plain (fun _ h => h.1)))
            go_wp2_with fail
            refine LQ.out.mono ?_
            rintro e w' ⟨rfl, rfl⟩
            simp only [List.length_nil]
            go_wp2
            go_roundw
            case rel => exact ⟨i + 1, [], by omega, by go_num, by simp, Qh.out, Hh.out, Hvb.out, Bl.out⟩
            case measure => simp [intOf]; omega
          | cons y ys =>
            obtain ⟨b5, o5, c5, he5, hc5, hcell5, hb5, ht5⟩ := Hh.out.tail
            simp only [List.length_cons] at he5 ⊢
            injection he5 with h51 h52 h53
            subst h51 h53
            have hob : (Value.slice (some ⟨b5, o5, none⟩) (ys.length + 1) cv).ownBlock = some b5 := by simp [Value.ownBlock]
            have QU := Lib.hid (show QueueU (fun k => wa.heap.size ≤ k ∧ k ≠ b5) wr wa.heap.size m (y :: ys) from Qh.out.mono (fun k _ h => ⟨h.1, fun e => h.2 (by rw [e]; simp [Value.ownBlock])⟩))
            have hwb : wa.heap.size ≤ b5 := Hvb.out b5 (by simp [Value.ownBlock])
            have HT := Lib.hid ht5
            have HC := Lib.hid hcell5
            clear ht5 hcell5
            go_wp2_with fail
            refine (queueU_pop _ wa.heap.size m y ys _ QU.out (by omega)).mono ?_
            rintro e w2 ⟨rfl, q2, k2⟩
            have cell2 := k2.cell hb5 (fun h => h.2 rfl) HC.out
            have Q2 := Lib.hid q2
            have B2 := Lib.hid (Bl.out.trans (k2.below (fun k hk => hk.1) Bl.out.size))
            have H2 := Lib.hid (HT.out.kept k2 (fun k hk hU => hU.2 (by by_cases h1 : cv = 1 <;> simp [h1, Value.ownBlock] at hk <;> exact hk.symm)))
            have LQ := Lib.hid (queue_len wa.heap.size wa.heap.size m _ w2 (q2.plain (fun _ h => h.1)))
            clear q2 k2
            have hc5i : (1 : Int) ≤ (cv : Int) := by omega
            have hl0 : (0 : Int) < (ys.length : Int) + 1 := by omega
            by_cases hc1 : cv = 1
            · subst hc1
              have hy0 : ys.length = 0 := by omega
              rw [if_pos rfl] at H2
              go_wp2_with fail
              refine LQ.out.mono ?_
              rintro e w' ⟨rfl, rfl⟩
              go_wp2
              go_roundw
              case rel => exact ⟨i + 1, ys, by omega, by go_num, by simp at hlm; omega, Q2.out.mono (fun k _ h => ⟨h.1, fun e => h.2 (by simpa [Value.ownBlock] using e.symm)⟩), (by have h := H2.out; rw [hy0] at h; exact h), fun k e => by (have : b5 = k := by simpa [Value.ownBlock] using e); omega, B2.out⟩
              case measure => simp [intOf]; omega
            · rw [if_neg hc1] at H2
              have hc1' : ¬ cv = 1 := hc1
              go_wp2_with fail
              refine LQ.out.mono ?_
              rintro e w' ⟨rfl, rfl⟩
              go_wp2
              go_roundw
              case rel => exact ⟨i + 1, ys, by omega, by go_num, by simp at hlm; omega, Q2.out.mono (fun k _ h => ⟨h.1, fun e => h.2 (by simpa [Value.ownBlock] using e.symm)⟩), H2.out, fun k e => by (have : b5 = k := by simpa [Value.ownBlock] using e); omega, B2.out⟩
              case measure => simp [intOf]; omega
      · go_wp2_with fail
        refine (spop_nil _).mono ?_
        rintro e w2 ⟨rfl, rfl⟩
        go_wp2_with fail
        refine (spush_nil _ _).mono ?_
        rintro e w2 ⟨rfl, k0, rfl⟩
        go_wp2_with fail
        refine (slen_nil _).mono ?_
        rintro e w2 ⟨rfl, rfl⟩
        go_wp2_with fail
        refine (ring_new_neg _).mono ?_
        rintro e w3 ⟨rfl, r3, b3⟩
        have R3 := Lib.hid r3
        have B3 := Lib.hid ((below_drewN Bl.out k0).trans (b3.mono (by have := Bl.out.size; exact this)))
        clear r3 b3
        go_wp2_with fail
        refine (ring_push_full _ none [] 0 0 0 1 _ R3.out (Nat.le_refl _)).mono ?_
        rintro e w4 ⟨rfl, k1, rfl⟩
        go_wp2
        go_ret
        exact ⟨rfl, HB.out.trans ((below_drewN B3.out k1).mono HB.out.size)⟩
  · go_enter Try.func14, Try.ntmps14
    go_wp2_with fail
    refine (awake2 _).mono ?_
    rintro e w1 ⟨rfl, hB⟩
    have HB := Lib.hid hB
    clear hB
    go_wp2_with fail
    refine (awake2 _).mono ?_
    rintro e w2 ⟨rfl, hB⟩
    go_wp2
    go_ret
    exact ⟨rfl, HB.out.trans (hB.mono HB.out.size)⟩

end Go.Proofs.Ytgombejncjcjhaa
