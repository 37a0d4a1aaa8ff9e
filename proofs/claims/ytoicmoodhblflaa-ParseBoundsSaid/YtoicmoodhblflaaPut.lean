/-
  Rows of arcs, places and transitions that a call has made: one more put at the end; what the document's own put comes to.
  Conditions: none beyond each theorem's own.
-/
import Derived.Test.YtoicmoodhblflaaNetC
import Derived.Test.YtoicmoodhblflaaMakeMath
namespace Go.Proofs.Ytoicmoodhblflaa
open Go.RowKit
set_option linter.unusedVariables false

theorem Try.infoArc : (Try.prog.info? 34).map (fun i => (i.zero, i.size, i.bytes)) = some (some (.agg #[.int .i64 0, .int .i64 0]), 2, 16) := by kernel_rfl
theorem Try.infoPlace : (Try.prog.info? 23).map (fun i => (i.zero, i.size, i.bytes)) = some (some (.agg #[.string { data := #[] }, .int .i64 0]), 2, 24) := by kernel_rfl
theorem Try.infoTrans : (Try.prog.info? 27).map (fun i => (i.zero, i.size, i.bytes)) = some (some (.agg #[.string { data := #[] }, .int .i64 0, .int .i64 0, .slice none 0 0, .slice none 0 0, .slice none 0 0]), 6, 104) := by kernel_rfl

theorem cell_newL (w : World) (cs : Array Value) (t : TypeId) : ∀ j x, cs.toList[j]? = some x → (w.alloc (.cells cs t)).cell? ((⟨w.heap.size, 0, none⟩ : Addr).add j) = some x := by
  intro j x hj
  have hb := heap_alloc_new w (.cells cs t)
  have e : (⟨w.heap.size, 0, none⟩ : Addr).add j = ⟨w.heap.size, j, none⟩ := by simp [Addr.add]; omega
  rw [e, cell_of_row _ _ j _ _ (0, 0) hb, ← hj]
  simp

abbrev OwnA (B : Nat) (w : World) (v : Value) (l : List (Int × Int)) : Prop := w.ownsRow B 34 2 v l.length (l.flatMap arcL)
abbrev OwnP (B : Nat) (w : World) (v : Value) (l : List Pl) : Prop := w.ownsRow B 23 2 v l.length (l.flatMap plL)
abbrev OwnT (B : Nat) (w : World) (v : Value) (l : List (Tr × Value × Value × Value)) : Prop := w.ownsRow B 27 6 v l.length (l.flatMap trL)

theorem OwnA.at_ {B : Nat} {w : World} {v : Value} {l : List (Int × Int)} (h : OwnA B w v l) : ArcsAt w v l := RowAt.of_own h
theorem OwnP.at_ {B : Nat} {w : World} {v : Value} {l : List Pl} (h : OwnP B w v l) : PlsAt w v l := RowAt.of_own h

/-- 'append(l, x)' -/
theorem run_push_arc {B : Nat} {v : Value} {l : List (Int × Int)} (ty : TypeId) (p n : Int) {w : World} (h : OwnA B w v l) (hl : l.length ≤ 1000000) (hB : B ≤ w.heap.size) :
    ∃ v' w', (Builtin.append_ #[25, 25] ty #[v, .slice (some ⟨w.heap.size, 0, none⟩) 1 1]).run Try.prog (w.alloc (.cells #[.int .i64 p, .int .i64 n] 34)) = .ok v' w' ∧ OwnA B w' v' (l ++ [(p, n)]) ∧
      Kept (fun k => v.ownBlock = some k) w w' ∧ (v'.ownBlock = v.ownBlock ∨ v'.ownBlock = some (w.heap.size + 1)) := by
  obtain ⟨i0, hi0, hz0, hz1, hz2⟩ := info_parts Try.infoArc
  obtain ⟨v', w', hr, h2, h3, _, h5⟩ := run_append_own_at (P := Try.prog) (w.alloc (.cells #[.int .i64 p, .int .i64 n] 34)) B 25 ty 34 i0 _ 2 16 Try.underlying25 hi0 hz0 hz1 hz2 rfl (by omega) v l.length (l.flatMap arcL) (h.alloc _)
    ⟨w.heap.size, 0, none⟩ 1 1 (arcL (p, n)) rfl (cell_newL w _ _) (by simp [arcL, Value.oneCell']) (by unfold maxLen; omega) (by omega) (by simp; omega)
  exact ⟨v', w', hr, by rw [OwnA, List.flatMap_append, List.length_append]; simpa using h2, ((Kept.refl _ w).alloc _).grown h3 (fun _ h => h), by simpa using h5⟩

theorem run_push_pl {B : Nat} {v : Value} {l : List Pl} (ty : TypeId) (x : Pl) {w : World} (h : OwnP B w v l) (hl : l.length ≤ 1000000) (hB : B ≤ w.heap.size) :
    ∃ v' w', (Builtin.append_ #[24, 24] ty #[v, .slice (some ⟨w.heap.size, 0, none⟩) 1 1]).run Try.prog (w.alloc (.cells #[.string x.name, .int .i64 x.tok] 23)) = .ok v' w' ∧ OwnP B w' v' (l ++ [x]) ∧
      Kept (fun k => v.ownBlock = some k) w w' ∧ (v'.ownBlock = v.ownBlock ∨ v'.ownBlock = some (w.heap.size + 1)) := by
  obtain ⟨i0, hi0, hz0, hz1, hz2⟩ := info_parts Try.infoPlace
  obtain ⟨v', w', hr, h2, h3, _, h5⟩ := run_append_own_at (P := Try.prog) (w.alloc (.cells #[.string x.name, .int .i64 x.tok] 23)) B 24 ty 23 i0 _ 2 24 Try.underlying24 hi0 hz0 hz1 hz2 rfl (by omega) v l.length (l.flatMap plL) (h.alloc _)
    ⟨w.heap.size, 0, none⟩ 1 1 (plL x) rfl (cell_newL w _ _) (by simp [plL, Value.oneCell']) (by unfold maxLen; omega) (by omega) (by simp; omega)
  exact ⟨v', w', hr, by rw [OwnP, List.flatMap_append, List.length_append]; simpa using h2, ((Kept.refl _ w).alloc _).grown h3 (fun _ h => h), by simpa using h5⟩

theorem run_push_tr {B : Nat} {v : Value} {l : List (Tr × Value × Value × Value)} (ty : TypeId) (x : Tr × Value × Value × Value) {w : World} (h : OwnT B w v l) (g1 : x.2.1.oneCell' = true) (g2 : x.2.2.1.oneCell' = true) (g3 : x.2.2.2.oneCell' = true) (hl : l.length ≤ 1000000) (hB : B ≤ w.heap.size) :
    ∃ v' w', (Builtin.append_ #[28, 28] ty #[v, .slice (some ⟨w.heap.size, 0, none⟩) 1 1]).run Try.prog (w.alloc (.cells #[.string x.1.name, .int .i64 x.1.delay, .int .i64 x.1.prio, x.2.1, x.2.2.1, x.2.2.2] 27)) = .ok v' w' ∧ OwnT B w' v' (l ++ [x]) ∧
      Kept (fun k => v.ownBlock = some k) w w' ∧ (v'.ownBlock = v.ownBlock ∨ v'.ownBlock = some (w.heap.size + 1)) := by
  obtain ⟨i0, hi0, hz0, hz1, hz2⟩ := info_parts Try.infoTrans
  obtain ⟨v', w', hr, h2, h3, _, h5⟩ := run_append_own_at (P := Try.prog) (w.alloc (.cells #[.string x.1.name, .int .i64 x.1.delay, .int .i64 x.1.prio, x.2.1, x.2.2.1, x.2.2.2] 27)) B 28 ty 27 i0 _ 6 104 Try.underlying28 hi0 hz0 hz1 hz2 rfl (by omega) v l.length (l.flatMap trL) (h.alloc _)
    ⟨w.heap.size, 0, none⟩ 1 1 (trL x) rfl (cell_newL w _ _) (fun u hu => by
      simp only [trL, List.mem_cons, List.not_mem_nil, or_false] at hu
      rcases hu with rfl | rfl | rfl | rfl | rfl | rfl
      · rfl
      · rfl
      · rfl
      · exact g1
      · exact g2
      · exact g3) (by unfold maxLen; omega) (by omega) (by simp; omega)
  exact ⟨v', w', hr, by rw [OwnT, List.flatMap_append, List.length_append]; simpa using h2, ((Kept.refl _ w).alloc _).grown h3 (fun _ h => h), by simpa using h5⟩

/-- what put answers: the row as it was, or one more at its end -/
structure PutOut (B : Nat) (w w' : World) (v v' : Value) (l : List (Int × Int)) : Prop where
  own : OwnA B w' v' l
  kept : Kept (fun k => v.ownBlock = some k) w w'
  fresh : v'.ownBlock = v.ownBlock ∨ ∃ k, v'.ownBlock = some k ∧ w.heap.size ≤ k
  slice : ∃ a c, v' = .slice a l.length c

set_option maxRecDepth 100000 in
set_option maxHeartbeats 1000000 in
theorem put_any {B : Nat} {w : World} {l : List (Int × Int)} {v : Value} {p n : Int} (h : OwnA B w v l) (hl : l.length ≤ 1000) (hB : B ≤ w.heap.size) :
    Calls Try.prog 28 #[v, .int .i64 p, .int .i64 n] w fun e w' => ∃ v', e = .returned v' ∧ PutOut B w w' v v' (putL l p n) := by
  obtain ⟨v2, w2, hr, ho2, hk2, hv2⟩ := run_push_arc 25 p n h (by omega) hB
  have hA := h.at_
  obtain ⟨a, cap, rfl⟩ := RowAt.len hA
  obtain ⟨m, hm⟩ : ∃ m, m = l.length := ⟨_, rfl⟩
  have H := Lib.hid h
  have HA := Lib.hid hA
  have Hm := Lib.hid hm
  have Ho2 := Lib.hid ho2
  have Hk2 := Lib.hid hk2
  have Hv2 := Lib.hid hv2
  rw [← hm] at H HA Hk2 Hv2 hr hl ⊢
  clear h hA hm ho2 hk2 hv2
  go_enter Try.func28, Try.ntmps28
  go_wp2
  go_loop [7] (fun i => ∃ k : Nat, k ≤ m ∧ i = .int .i64 k ∧ Hid (hasP l p = anyFrom (fun a => a.1 == p) l k)) (fun i => m - (intOf i).toNat)
  case atStart => exact ⟨0, by omega, rfl, Lib.hid (by rw [anyFrom_zero]; rfl)⟩
  case round =>
    obtain ⟨k, hk, rfl, Hk⟩ := hrel
    by_cases hlt : k < m
    · obtain ⟨⟨x, y⟩, hx⟩ := at_lt (l := l) (k := k) (by rw [← Hm.out]; exact hlt)
      have hlti : (k : Int) < (m : Int) := by omega
      obtain ⟨b, off, rfl, hbw, e0, e1⟩ := ArcsAt.at_ HA.out hx
      have Hx := Lib.hid hx
      clear hx
      cases hf : (x == p) with
      | true =>
        have Hr : Hid (putL l p n = l) := Lib.hid (by unfold putL; rw [if_pos (by rw [Hk.out]; exact anyFrom_yes Hx.out hf)])
        go_wp2
        go_ret
        exact ⟨_, rfl, by rw [Hr.out]; exact ⟨by rw [OwnA, ← Hm.out]; exact Hm.out ▸ H.out, Kept.refl _ _, .inl rfl, _, _, by rw [← Hm.out]; rfl⟩⟩
      | false =>
        have Hr : Hid (hasP l p = anyFrom (fun a => a.1 == p) l (k + 1)) := Lib.hid (by rw [Hk.out]; exact anyFrom_no Hx.out hf)
        go_wp2
        go_round
        case rel => exact ⟨k + 1, by omega, by go_num, Hr⟩
        case measure => simp [intOf]; omega
    · have hge : ¬ (k : Int) < (m : Int) := by omega
      have Hr : Hid (putL l p n = l ++ [(p, n)]) := Lib.hid (by
        have e0 : hasP l p = false := by rw [Hk.out]; exact anyFrom_end _ _ _ (by rw [← Hm.out]; omega)
        unfold putL; rw [if_neg (by rw [e0]; simp)])
      go_wp2_with (at_builtin; refine wpList_append_eq rfl (.tmp 22) (.tmp 26) 25 rfl rfl rfl hr ?_)
      go_ret
      refine ⟨_, rfl, ?_⟩
      rw [Hr.out]
      refine ⟨Ho2.out, Hk2.out, ?_, RowAt.len (OwnA.at_ Ho2.out)⟩
      rcases Hv2.out with e | e
      · exact .inl e
      · exact .inr ⟨_, e, by omega⟩
end Go.Proofs.Ytoicmoodhblflaa
