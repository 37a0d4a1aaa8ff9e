/-
  The law TrayOrders, walked: it returns true for every list of keys and every turn.
  Conditions: turn is a byte.
-/
import Derived.Test.YtgombejncjcjhabOrdersA
namespace Go.Proofs.Ytgombejncjcjhab
open Go.RowKit
set_option linter.unusedVariables false

theorem two_new (w : World) : Two w.heap.size ((w.alloc (.cells #[.slice none 0 0] 27)).alloc (.cells #[.slice none 0 0] 27)) w.heap.size (.slice none 0 0) [] (w.heap.size + 1) (.slice none 0 0) [] := by
  have h1 := (heap_new w).below ((Below.refl _ (w.alloc (.cells #[.slice none 0 0] 27))).alloc (Nat.le_refl _) (.cells #[.slice none 0 0] 27))
  have h2 := heap_new (w.alloc (.cells #[.slice none 0 0] 27))
  rw [show (w.alloc (.cells #[.slice none 0 0] 27)).heap.size = w.heap.size + 1 by simp] at h2
  exact ⟨h1, ⟨h2.blk, World.ownsRow_nil _ _ _ _, by omega, h2.heap⟩, by omega, fun k h => by simp [Value.ownBlock] at h⟩

/-- the rows of both heaps lie elsewhere than block q -/
def Off (va vb : Value) (ga gb q : Nat) : Prop := va.ownBlock ≠ some q ∧ vb.ownBlock ≠ some q ∧ q ≠ ga ∧ q ≠ gb

/-- a key stored in a block of its own that no heap uses -/
theorem last_set {B ga gb q : Nat} {wa w : World} {va vb : Value} {ka kb : List Key4} {z1 z2 z3 z4 : Int} (x1 x2 x3 x4 : Int) (T : Two B w ga va ka gb vb kb) (hb : Below wa.heap.size wa w) (hO : Off va vb ga gb q) (hz : w.heap[q]? = some (.cells #[.int .i64 z1, .int .i64 z2, .int .i64 z3, .int .i64 z4] 23 (0, 0))) (hq : wa.heap.size ≤ q) :
    Two B ((((w.setCell ⟨q, 0, none⟩ (.int .i64 x1)).setCell ⟨q, 1, none⟩ (.int .i64 x2)).setCell ⟨q, 2, none⟩ (.int .i64 x3)).setCell ⟨q, 3, none⟩ (.int .i64 x4)) ga va ka gb vb kb ∧
    Below wa.heap.size wa ((((w.setCell ⟨q, 0, none⟩ (.int .i64 x1)).setCell ⟨q, 1, none⟩ (.int .i64 x2)).setCell ⟨q, 2, none⟩ (.int .i64 x3)).setCell ⟨q, 3, none⟩ (.int .i64 x4)) ∧
    ((((w.setCell ⟨q, 0, none⟩ (.int .i64 x1)).setCell ⟨q, 1, none⟩ (.int .i64 x2)).setCell ⟨q, 2, none⟩ (.int .i64 x3)).setCell ⟨q, 3, none⟩ (.int .i64 x4)).heap[q]? = some (.cells #[.int .i64 x1, .int .i64 x2, .int .i64 x3, .int .i64 x4] 23 (0, 0)) := by
  have hK : Kept (fun k => k = q) w ((((w.setCell ⟨q, 0, none⟩ (.int .i64 x1)).setCell ⟨q, 1, none⟩ (.int .i64 x2)).setCell ⟨q, 2, none⟩ (.int .i64 x3)).setCell ⟨q, 3, none⟩ (.int .i64 x4)) :=
    ((((Kept.refl (fun k => k = q) w).setCell (p := ⟨q, 0, none⟩) rfl _).setCell (p := ⟨q, 1, none⟩) rfl _).setCell (p := ⟨q, 2, none⟩) rfl _).setCell (p := ⟨q, 3, none⟩) rfl _
  refine ⟨⟨T.a.kept hK (Ne.symm hO.2.2.1) (fun r hr e => hO.1 (by rw [← e]; exact hr)), T.b.kept hK (Ne.symm hO.2.2.2) (fun r hr e => hO.2.1 (by rw [← e]; exact hr)), T.ne, T.apart⟩, ?_, ?_⟩
  · exact (((hb.setCell (p := ⟨q, 0, none⟩) hq _).setCell (p := ⟨q, 1, none⟩) hq _).setCell (p := ⟨q, 2, none⟩) hq _).setCell (p := ⟨q, 3, none⟩) hq _
  · rw [Joins.block_setCell (Joins.block_setCell (Joins.block_setCell (Joins.block_setCell hz _) _) _) _]; rfl

set_option maxHeartbeats 4000000 in
theorem orders_big (A : Option Addr) (cap n t : Nat) (w : World) (hn : 40 < n) (hm : n ≤ 9223372036854775807) :
    Calls Try.prog 4 #[.slice A n cap, .int .u8 t] w fun e w' => e = .returned (.bool true) ∧ Below w.heap.size w w' := by
  go_enter Try.func4, Try.ntmps4
  go_wp2_with fail
  refine (awake2 _).mono ?_
  rintro e w1 ⟨rfl, hB⟩
  have HB := Lib.hid hB
  clear hB
  go_wp2_with fail
  refine (awake2 _).mono ?_
  rintro e w2 ⟨rfl, hB⟩
  go_wp2
  go_ret
  exact ⟨rfl, HB.out.trans (hB.mono HB.out.size)⟩

set_option maxHeartbeats 4000000 in
theorem orders_law (A : Option Addr) (cap : Nat) (ls : List Key4) (t : Nat) (ht : t ≤ 255) (w : World) (hr : ReadsK w A ls) (hl : ls.length ≤ 40) :
    Calls Try.prog 4 #[.slice A ls.length cap, .int .u8 t] w fun e w' => e = .returned (.bool true) ∧ Below w.heap.size w w' := by
  have Hr := Lib.hid hr
  clear hr
  obtain ⟨n, hn⟩ : ∃ n, n = ls.length := ⟨_, rfl⟩
  rw [← hn] at hl ⊢
  have Hn := Lib.hid hn
  clear hn
  go_enter Try.func4, Try.ntmps4
  go_wp2_with fail
  refine (awake2 _).mono ?_
  rintro e wa ⟨rfl, hB⟩
  have Hr1 := Lib.hid (Hr.out.below hB)
  have HB := Lib.hid hB
  clear hB
  have T0 := Lib.hid (two_new wa)
  have B0 : Hid (Below wa.heap.size wa ((wa.alloc (.cells #[.slice none 0 0] 27)).alloc (.cells #[.slice none 0 0] 27))) := Lib.hid (below_two _ _)
  go_wp2
  go_loopw [7] (fun s wr => ∃ i : Nat, ∃ va vb : Value, ∃ ka kb : List Key4, i ≤ n ∧ s = .int .i64 i ∧ ka.Perm (ls.take i) ∧ kb.Perm (turned ls t i) ∧ Two wa.heap.size wr wa.heap.size va ka (wa.heap.size + 1) vb kb ∧ Below wa.heap.size wa wr) (fun s _ => n - (intOf s).toNat)
  case atStart => exact ⟨0, _, _, [], [], Nat.zero_le _, rfl, List.Perm.refl _, List.Perm.refl _, T0.out, B0.out⟩
  case round =>
    obtain ⟨i, va, vb, ka, kb, hi, rfl, hpa, hpb, ht2, hb⟩ := hrel
    have Hpa := Lib.hid hpa
    have Hpb := Lib.hid hpb
    have T := Lib.hid ht2
    have Hb := Lib.hid hb
    have Hla : Hid (ka.length = i) := Lib.hid (by rw [hpa.length_eq, List.length_take, ← Hn.out]; omega)
    have Hlb : Hid (kb.length = i) := Lib.hid (by rw [hpb.length_eq]; simp [turned])
    clear hpa hpb ht2 hb
    by_cases hlt : i < n
    · obtain ⟨x, hx⟩ : ∃ x, at4 ls i = x := ⟨_, rfl⟩
      obtain ⟨m, hm⟩ : ∃ m, m = (i + t) % n := ⟨_, rfl⟩
      have hmn : m < n := by rw [hm]; exact Nat.mod_lt _ (by omega)
      have hmi : ((i : Int) + (t : Int)) % (n : Int) = (m : Int) := by rw [hm, Int.natCast_emod, Int.natCast_add]
      obtain ⟨y, hy⟩ : ∃ y, at4 ls m = y := ⟨_, rfl⟩
      obtain ⟨b1, o1, hA, hb1, c1, c2, c3, c4⟩ := Hr1.out.place i (by rw [← Hn.out]; exact hlt) x hx
      subst hA
      obtain ⟨b2, o2, hA2, hb2, d1, d2, d3, d4⟩ := Hr1.out.place m (by rw [← Hn.out]; exact hmn) y hy
      simp only [Option.some.injEq, Addr.mk.injEq, and_true] at hA2
      obtain ⟨rfl, rfl⟩ := hA2
      have Hx := Lib.hid hx
      have Hy := Lib.hid hy
      have Hm := Lib.hid hm
      clear hx hy hm hb2
      obtain ⟨x1, x2, x3, x4⟩ := x
      obtain ⟨y1, y2, y3, y4⟩ := y
      simp only at c1 c2 c3 c4 d1 d2 d3 d4
      have HD : Hid (wa.cell? ⟨b1, o1 + m * 4, none⟩ = some (.int .i64 y1) ∧ wa.cell? ⟨b1, o1 + m * 4 + 1, none⟩ = some (.int .i64 y2) ∧ wa.cell? ⟨b1, o1 + m * 4 + 2, none⟩ = some (.int .i64 y3) ∧ wa.cell? ⟨b1, o1 + m * 4 + 3, none⟩ = some (.int .i64 y4)) := Lib.hid ⟨d1, d2, d3, d4⟩
      clear d1 d2 d3 d4
      have e1 := (Hb.out.cell (p := ⟨b1, o1 + i * 4, none⟩) hb1).trans c1
      have e2 := (Hb.out.cell (p := ⟨b1, o1 + i * 4 + 1, none⟩) hb1).trans c2
      have e3 := (Hb.out.cell (p := ⟨b1, o1 + i * 4 + 2, none⟩) hb1).trans c3
      have e4 := (Hb.out.cell (p := ⟨b1, o1 + i * 4 + 3, none⟩) hb1).trans c4
      clear c1 c2 c3 c4
      go_wp2_with fail
      refine (push_any wa.heap.size wa.heap.size va ka x1 x2 x3 x4 _ T.out.a (by rw [Hla.out]; omega) Hb.out.size).mono ?_
      rintro e w1 ⟨rfl, hk1, v1, ks1, hp1, h1, hv1⟩
      have T1 := Lib.hid (T.out.first hk1 h1 hv1)
      have B1 := Lib.hid (Hb.out.trans (heap_below T.out.a hk1 Hb.out.size))
      have P1 : Hid (ks1.Perm (ls.take (i + 1))) := Lib.hid (by
        rw [take_succ4 ls i (by rw [← Hn.out]; exact hlt), Hx.out]
        exact (hp1.trans (List.Perm.cons _ Hpa.out)).trans (List.perm_append_singleton _ _).symm)
      obtain ⟨d1, d2, d3, d4⟩ := HD.out
      have f1 := (B1.out.cell (p := ⟨b1, o1 + m * 4, none⟩) hb1).trans d1
      have f2 := (B1.out.cell (p := ⟨b1, o1 + m * 4 + 1, none⟩) hb1).trans d2
      have f3 := (B1.out.cell (p := ⟨b1, o1 + m * 4 + 2, none⟩) hb1).trans d3
      have f4 := (B1.out.cell (p := ⟨b1, o1 + m * 4 + 3, none⟩) hb1).trans d4
      clear hk1 h1 hv1 hp1 d1 d2 d3 d4 e1 e2 e3 e4
      go_wp2_with fail
      refine (push_any wa.heap.size (wa.heap.size + 1) vb kb y1 y2 y3 y4 _ T1.out.b (by rw [Hlb.out]; omega) B1.out.size).mono ?_
      rintro e w2 ⟨rfl, hk2, v2, ks2, hp2, h2, hv2⟩
      have T2 := Lib.hid (T1.out.swap.first hk2 h2 hv2).swap
      have B2 := Lib.hid (B1.out.trans (heap_below T1.out.b hk2 B1.out.size))
      have P2 : Hid (ks2.Perm (turned ls t (i + 1))) := Lib.hid (by
        rw [turned_succ, ← Hn.out, ← Hm.out, Hy.out]
        exact (hp2.trans (List.Perm.cons _ Hpb.out)).trans (List.perm_append_singleton _ _).symm)
      clear hk2 h2 hv2 hp2 f1 f2 f3 f4
      go_wp2
      go_roundw
      case rel => exact ⟨i + 1, v1, v2, ks1, ks2, by omega, by go_num, P1.out, P2.out, T2.out, B2.out⟩
      case measure => simp [intOf]; omega
    · obtain rfl : i = n := by omega
      have Hab : Hid (ka.Perm kb) := Lib.hid (by
        have h1 := Hpa.out
        rw [List.take_of_length_le (by rw [← Hn.out]; exact Nat.le_refl _)] at h1
        have h2 := Hpb.out
        rw [Hn.out] at h2
        exact h1.trans ((turned_perm ls t).symm.trans h2.symm))
      have hq : wa.heap.size + 1 < wr.heap.size := T.out.b.lt
      have TN := Lib.hid (T.out.below ((Below.refl _ wr).alloc (Nat.le_refl _) (.cells #[.int .i64 0, .int .i64 0, .int .i64 0, .int .i64 0] 23)))
      have hnew := Lib.hid (heap_alloc_new wr (.cells #[.int .i64 0, .int .i64 0, .int .i64 0, .int .i64 0] 23))
      have OffN : Hid (Off va vb wa.heap.size (wa.heap.size + 1) wr.heap.size) := Lib.hid ⟨fun e => by have := (T.out.a.own.lt _ e).2; omega, fun e => by have := (T.out.b.own.lt _ e).2; omega, by omega, by omega⟩
      have BN : Hid (Below wa.heap.size wa (wr.alloc (.cells #[.int .i64 0, .int .i64 0, .int .i64 0, .int .i64 0] 23))) := Lib.hid (Hb.out.alloc Hb.out.size _)
      obtain ⟨q, hqq⟩ : ∃ q, q = wr.heap.size := ⟨_, rfl⟩
      go_wp2
      rw [← hqq] at OffN hnew hq ⊢
      clear hqq
      go_loopw [9] (fun s wr2 => ∃ j : Nat, ∃ va vb : Value, ∃ ka kb : List Key4, ∃ z1 z2 z3 z4 : Int, j ≤ i ∧ s = .int .i64 j ∧ ka.Perm kb ∧ Hid (ka.length = i - j) ∧ Two wa.heap.size wr2 wa.heap.size va ka (wa.heap.size + 1) vb kb ∧ Below wa.heap.size wa wr2 ∧ Off va vb wa.heap.size (wa.heap.size + 1) q ∧ Hid (wr2.heap[q]? = some (.cells #[.int .i64 z1, .int .i64 z2, .int .i64 z3, .int .i64 z4] 23 (0, 0))) ∧ Hid (0 < j → ∀ y ∈ ka, klt y (z1, z2, z3, z4) = false)) (fun s _ => i - (intOf s).toNat)
      case atStart => exact ⟨0, va, vb, ka, kb, 0, 0, 0, 0, Nat.zero_le _, rfl, Hab.out, Lib.hid (by rw [Hla.out]; omega), TN.out, BN.out, OffN.out, Lib.hid hnew.out, Lib.hid (fun h => absurd h (by omega))⟩
      case round =>
        obtain ⟨j, va2, vb2, ka2, kb2, z1, z2, z3, z4, hj, rfl, hp2, hl2, ht3, hb3, hoff, hz, hle⟩ := hrel
        have P2 := Lib.hid hp2
        have T2 := Lib.hid ht3
        have B2 := Lib.hid hb3
        have O2 := Lib.hid hoff
        clear hp2 ht3 hb3 hoff
        by_cases hlt2 : j < i
        · have hka : 0 < ka2.length := by rw [hl2.out]; omega
          obtain ⟨x, hx⟩ : ∃ x, at4 ka2 0 = x := ⟨_, rfl⟩
          have hy : at4 kb2 0 = x := by rw [← hx]; exact first_eq T2.out.a.heap T2.out.b.heap P2.out hka
          have hxl : 0 < j → klt x (z1, z2, z3, z4) = false := fun h => by rw [← hx]; exact hle.out h _ (at4_mem hka)
          have hxm : ∀ y ∈ ka2, klt y x = false := fun y hy => by obtain ⟨k, hk, e⟩ := mem_at4 hy; rw [← e, ← hx]; exact T2.out.a.heap.first k hk
          have Hx := Lib.hid hx
          have Hy := Lib.hid hy
          have Hxl := Lib.hid hxl
          have Hxm := Lib.hid hxm
          have Hka := Lib.hid hka
          clear hx hy hxl hxm hka
          go_wp2_with fail
          refine (pop_some wa.heap.size wa.heap.size va2 ka2 _ T2.out.a Hka.out (by rw [hl2.out]; omega)).mono ?_
          rintro e w3 ⟨rfl, hk3, v3, ks3, hp3, h3, hv3⟩
          rw [Hx.out] at hp3 ⊢
          have T3 := Lib.hid (T2.out.first hk3 h3 (fun k h => .inl (hv3 k h)))
          have B3 := Lib.hid (B2.out.trans (heap_below T2.out.a hk3 B2.out.size))
          have P3 := Lib.hid hp3
          have V3 := Lib.hid hv3
          have Z3 : Hid (w3.heap[q]? = some (.cells #[.int .i64 z1, .int .i64 z2, .int .i64 z3, .int .i64 z4] 23 (0, 0))) := Lib.hid ((hk3.block q (Array.getElem?_eq_some_iff.1 hz.out).1 (by rintro (e | e); exact O2.out.2.2.1 e; exact O2.out.1 e)).trans hz.out)
          obtain ⟨x1, x2, x3, x4⟩ := x
          have T4 := Lib.hid (T3.out.below ((Below.refl _ w3).alloc (Nat.le_refl _) (.cells #[.int .i64 x1, .int .i64 x2, .int .i64 x3, .int .i64 x4] 23)))
          have hxn := Lib.hid (heap_alloc_new w3 (.cells #[.int .i64 x1, .int .i64 x2, .int .i64 x3, .int .i64 x4] 23))
          have hga3 : wa.heap.size + 1 < w3.heap.size := T3.out.b.lt
          have hq3 : q < w3.heap.size := (Array.getElem?_eq_some_iff.1 Z3.out).1
          have Z4 : Hid ((w3.alloc (.cells #[.int .i64 x1, .int .i64 x2, .int .i64 x3, .int .i64 x4] 23)).heap[q]? = some (.cells #[.int .i64 z1, .int .i64 z2, .int .i64 z3, .int .i64 z4] 23 (0, 0))) := Lib.hid ((Below.heap_alloc _ _ _ hq3).trans Z3.out)
          clear hk3 h3 hp3 hv3
          go_wp2_with fail
          refine (pop_some wa.heap.size (wa.heap.size + 1) vb2 kb2 _ T4.out.b (by rw [← P2.out.length_eq]; exact Hka.out) (by rw [← P2.out.length_eq, hl2.out]; omega)).mono ?_
          rintro e w5 ⟨rfl, hk5, v5, ks5, hp5, h5, hv5⟩
          rw [Hy.out] at hp5 ⊢
          have T5 := Lib.hid (T4.out.swap.first hk5 h5 (fun k h => .inl (hv5 k h))).swap
          have B5 := Lib.hid ((B3.out.alloc B3.out.size _).trans (heap_below T4.out.b hk5 (by have := B3.out.size; simp; omega)))
          have P5 : Hid (ks3.Perm ks5) := Lib.hid ((List.perm_cons _).1 (P3.out.trans (P2.out.trans hp5.symm)))
          have Z5 : Hid (w5.heap[q]? = some (.cells #[.int .i64 z1, .int .i64 z2, .int .i64 z3, .int .i64 z4] 23 (0, 0))) := Lib.hid ((hk5.block q (Array.getElem?_eq_some_iff.1 Z4.out).1 (by rintro (e | e); exact O2.out.2.2.2 e; exact O2.out.2.1 e)).trans Z4.out)
          have X5 : Hid (w5.heap[w3.heap.size]? = some (.cells #[.int .i64 x1, .int .i64 x2, .int .i64 x3, .int .i64 x4] 23 (0, 0))) := Lib.hid ((hk5.block w3.heap.size (by simp) (by rintro (e | e); omega; have := (T3.out.b.own.lt _ e).2; omega)).trans hxn.out)
          have O5 : Hid (Off v3 v5 wa.heap.size (wa.heap.size + 1) q) := Lib.hid ⟨fun e => O2.out.1 (V3.out _ e), fun e => O2.out.2.1 (hv5 _ e), O2.out.2.2.1, O2.out.2.2.2⟩
          have L5 : Hid (ks3.length = i - (j + 1)) := Lib.hid (by have h1 := P3.out.length_eq; rw [hl2.out] at h1; simp at h1; omega)
          have M5 : Hid (∀ y ∈ ks3, klt y (x1, x2, x3, x4) = false) := Lib.hid (fun y hy => Hxm.out y (P3.out.mem_iff.1 (List.mem_cons_of_mem _ hy)))
          have hs5 : w3.heap.size < w5.heap.size := (Array.getElem?_eq_some_iff.1 X5.out).1
          have a1 : w5.cell? ⟨w3.heap.size, 0, none⟩ = some (.int .i64 x1) := by rw [cell_of_row _ _ 0 _ _ (0, 0) X5.out]; rfl
          have a2 : w5.cell? ⟨w3.heap.size, 1, none⟩ = some (.int .i64 x2) := by rw [cell_of_row _ _ 1 _ _ (0, 0) X5.out]; rfl
          have a3 : w5.cell? ⟨w3.heap.size, 2, none⟩ = some (.int .i64 x3) := by rw [cell_of_row _ _ 2 _ _ (0, 0) X5.out]; rfl
          have a4 : w5.cell? ⟨w3.heap.size, 3, none⟩ = some (.int .i64 x4) := by rw [cell_of_row _ _ 3 _ _ (0, 0) X5.out]; rfl
          have g1 : w5.cell? ⟨q, 0, none⟩ = some (.int .i64 z1) := by rw [cell_of_row _ _ 0 _ _ (0, 0) Z5.out]; rfl
          have g2 : w5.cell? ⟨q, 1, none⟩ = some (.int .i64 z2) := by rw [cell_of_row _ _ 1 _ _ (0, 0) Z5.out]; rfl
          have g3 : w5.cell? ⟨q, 2, none⟩ = some (.int .i64 z3) := by rw [cell_of_row _ _ 2 _ _ (0, 0) Z5.out]; rfl
          have g4 : w5.cell? ⟨q, 3, none⟩ = some (.int .i64 z4) := by rw [cell_of_row _ _ 3 _ _ (0, 0) Z5.out]; rfl
          have u1 : w5.frozen? ⟨q, 0, none⟩ = false := by simp [World.frozen?, Z5.out]
          have u2 : w5.frozen? ⟨q, 1, none⟩ = false := by simp [World.frozen?, Z5.out]
          have u3 : w5.frozen? ⟨q, 2, none⟩ = false := by simp [World.frozen?, Z5.out]
          have u4 : w5.frozen? ⟨q, 3, none⟩ = false := by simp [World.frozen?, Z5.out]
          have hq5 : q < w5.heap.size := (Array.getElem?_eq_some_iff.1 Z5.out).1
          have hqx : q ≠ w3.heap.size := by omega
          clear hk5 h5 hp5 hv5
          have hqa : wa.heap.size ≤ q := by omega
          by_cases hj0 : 0 < j
          · have hlt3 := Hxl.out hj0
            have gd : decide ((0 : Int) < (j : Int)) = true := by simp; omega
            go_wp2_with fail
            refine (less_any _ _ _ _ _ _ _ _ _).mono ?_
            rintro e w6 ⟨rfl, hb6⟩
            have hs6 : w5.heap.size < w6.heap.size := by have := hb6.size; simp at this; omega
            have hB6 : Below w5.heap.size w5 w6 := ((Below.refl _ _).alloc (Nat.le_refl _) _).trans (hb6.mono (by simp))
            have T6 := Lib.hid (T5.out.below hB6)
            have B6 := Lib.hid (B5.out.trans (hB6.mono B5.out.size))
            have Z6 : Hid (w6.heap[q]? = some (.cells #[.int .i64 z1, .int .i64 z2, .int .i64 z3, .int .i64 z4] 23 (0, 0))) := Lib.hid ((hB6.block q hq5).trans Z5.out)
            have L6 := Lib.hid (last_set x1 x2 x3 x4 T6.out B6.out O5.out Z6.out hqa)
            replace a1 := (hB6.cell (p := ⟨w3.heap.size, 0, none⟩) hs5).trans a1
            replace a2 := (hB6.cell (p := ⟨w3.heap.size, 1, none⟩) hs5).trans a2
            replace a3 := (hB6.cell (p := ⟨w3.heap.size, 2, none⟩) hs5).trans a3
            replace a4 := (hB6.cell (p := ⟨w3.heap.size, 3, none⟩) hs5).trans a4
            replace g1 := (hB6.cell (p := ⟨q, 0, none⟩) hq5).trans g1
            replace g2 := (hB6.cell (p := ⟨q, 1, none⟩) hq5).trans g2
            replace g3 := (hB6.cell (p := ⟨q, 2, none⟩) hq5).trans g3
            replace g4 := (hB6.cell (p := ⟨q, 3, none⟩) hq5).trans g4
            replace u1 := (hB6.frozen (p := ⟨q, 0, none⟩) hq5).trans u1
            replace u2 := (hB6.frozen (p := ⟨q, 1, none⟩) hq5).trans u2
            replace u3 := (hB6.frozen (p := ⟨q, 2, none⟩) hq5).trans u3
            replace u4 := (hB6.frozen (p := ⟨q, 3, none⟩) hq5).trans u4
            clear hb6 hB6
            go_wp2
            go_roundw
            case rel => exact ⟨j + 1, v3, v5, ks3, ks5, x1, x2, x3, x4, by omega, by go_num, P5.out, L5, L6.out.1, L6.out.2.1, O5.out, Lib.hid L6.out.2.2, Lib.hid (fun _ => M5.out)⟩
            case measure => simp [intOf]; omega
          · obtain rfl : j = 0 := by omega
            have L6 := Lib.hid (last_set x1 x2 x3 x4 T5.out B5.out O5.out Z5.out hqa)
            go_wp2
            go_roundw
            case rel => exact ⟨1, v3, v5, ks3, ks5, x1, x2, x3, x4, by omega, by go_num, P5.out, L5, L6.out.1.below ((Below.refl _ _).alloc (Nat.le_refl _) _), L6.out.2.1.alloc L6.out.2.1.size _, O5.out, Lib.hid ((Below.heap_alloc _ _ _ (Array.getElem?_eq_some_iff.1 L6.out.2.2).1).trans L6.out.2.2), Lib.hid (fun _ => M5.out)⟩
            case measure => simp [intOf]; omega
        · have hkl : ka2.length = 0 := by rw [hl2.out]; omega
          have hkl2 : kb2.length = 0 := by rw [← P2.out.length_eq]; exact hkl
          have La := Lib.hid (len_any wa.heap.size wa.heap.size va2 ka2 wr T2.out.a)
          have Lb := Lib.hid (len_any wa.heap.size (wa.heap.size + 1) vb2 kb2 wr T2.out.b)
          have Ka := Lib.hid hkl
          have Kb := Lib.hid hkl2
          clear hkl hkl2
          go_wp2_with fail
          refine La.out.mono ?_
          rintro e w' ⟨rfl, rfl⟩
          rw [Ka.out]
          go_wp2_with fail
          refine Lb.out.mono ?_
          rintro e w' ⟨rfl, rfl⟩
          rw [Kb.out]
          go_wp2
          go_ret
          exact ⟨rfl, HB.out.trans (B2.out.mono HB.out.size)⟩

theorem orders_lawI (A : Option Addr) (cap : Nat) (ls : List Key4) (a : Int) (h0 : 0 ≤ a) (h1 : a ≤ 255) (w : World) (hr : ReadsK w A ls) (hm : ls.length ≤ 9223372036854775807) :
    Calls Try.prog 4 #[.slice A ls.length cap, .int .u8 a] w fun e w' => e = .returned (.bool true) ∧ Below w.heap.size w w' := by
  obtain ⟨t, rfl⟩ := Int.eq_ofNat_of_zero_le h0
  by_cases hl : ls.length ≤ 40
  · exact orders_law A cap ls t (by omega) w hr hl
  · exact orders_big A cap ls.length t w (by omega) hm

end Go.Proofs.Ytgombejncjcjhab
