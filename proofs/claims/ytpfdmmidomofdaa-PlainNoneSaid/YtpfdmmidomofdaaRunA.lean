/-
  A run's box: its net, its firings, its tokens, what is under way, its time. What next comes to; what append of one event comes to where there is room.
  Conditions: none beyond each theorem's own.
-/
import Derived.Test.YtpfdmmidomofdaaRunMath
namespace Go.Proofs.Ytpfdmmidomofdaa
open Go.RowKit
set_option linter.unusedVariables false

def fiL (f : Int × Int) : List Value := [.int .i64 f.1, .int .i64 f.2]
def evL (e : Ev) : List Value := [.int .i64 e.time, .int .i64 e.place, .int .i64 e.n]
theorem fiL_len (f : Int × Int) : (fiL f).length = 2 := rfl
theorem evL_len (e : Ev) : (evL e).length = 3 := rfl
def fiRow (v : Value) (l : List (Int × Int)) : Row := ⟨72, 2, v, l.length, l.flatMap fiL⟩
def evRow (v : Value) (l : List Ev) : Row := ⟨65, 3, v, l.length, l.flatMap evL⟩
def FisAt (w : World) (v : Value) (l : List (Int × Int)) : Prop := RowAt 2 w v l.length (l.flatMap fiL)
def EvsAt (w : World) (v : Value) (l : List Ev) : Prop := RowAt 3 w v l.length (l.flatMap evL)
abbrev OwnE (B : Nat) (w : World) (v : Value) (l : List Ev) : Prop := w.ownsRow B 65 3 v l.length (l.flatMap evL)
abbrev OwnF (B : Nat) (w : World) (v : Value) (l : List (Int × Int)) : Prop := w.ownsRow B 72 2 v l.length (l.flatMap fiL)
theorem Try.infoEv : (Try.prog.info? 65).map (fun i => (i.zero, i.size, i.bytes)) = some (some (.agg #[.int .i64 0, .int .i64 0, .int .i64 0]), 3, 24) := by kernel_rfl
theorem Try.infoFi : (Try.prog.info? 72).map (fun i => (i.zero, i.size, i.bytes)) = some (some (.agg #[.int .i64 0, .int .i64 0]), 2, 16) := by kernel_rfl

theorem EvsAt.below {w w' : World} {v : Value} {l : List Ev} (h : EvsAt w v l) (hb : Below w.heap.size w w') : EvsAt w' v l := RowAt.below h hb
theorem EvsAt.at_ {w : World} {l : List Ev} {a : Option Addr} {n cap : Nat} (h : EvsAt w (.slice a n cap) l) {i : Nat} {x : Ev} (hi : l[i]? = some x) :
    ∃ b off, a = some ⟨b, off, none⟩ ∧ b < w.heap.size ∧ w.cell? ⟨b, off + i * 3, none⟩ = some (.int .i64 x.time) ∧ w.cell? ⟨b, off + i * 3 + 1, none⟩ = some (.int .i64 x.place) ∧ w.cell? ⟨b, off + i * 3 + 2, none⟩ = some (.int .i64 x.n) := by
  obtain ⟨b, off, e, hb, hc⟩ := RowAt.elem evL_len h hi
  exact ⟨b, off, e, hb, hc 0 _ rfl, hc 1 _ rfl, hc 2 _ rfl⟩
theorem FisAt.below {w w' : World} {v : Value} {l : List (Int × Int)} (h : FisAt w v l) (hb : Below w.heap.size w w') : FisAt w' v l := RowAt.below h hb
theorem FisAt.at_ {w : World} {l : List (Int × Int)} {a : Option Addr} {n cap : Nat} (h : FisAt w (.slice a n cap) l) {i : Nat} {x : Int × Int} (hi : l[i]? = some x) :
    ∃ b off, a = some ⟨b, off, none⟩ ∧ b < w.heap.size ∧ w.cell? ⟨b, off + i * 2, none⟩ = some (.int .i64 x.1) ∧ w.cell? ⟨b, off + i * 2 + 1, none⟩ = some (.int .i64 x.2) := by
  obtain ⟨b, off, e, hb, hc⟩ := RowAt.elem fiL_len h hi
  exact ⟨b, off, e, hb, hc 0 _ rfl, hc 1 _ rfl⟩

def runCs (vp vt vl vm vq : Value) (t : Int) : List Value := [vp, vt, vl, vm, vq, .int .i64 t]
/-- a run in block b, over what lies below w0's end; its tokens in block bm -/
def RunAt (w0 w : World) (b : Nat) (vp vt : Value) (bm nm cm : Nat) (t : Int) (s : St) (more : List Row) : Prop :=
  ∃ vl vq, AllOwn w0.heap.size w (boxRow b 81 (runCs vp vt vl (.slice (some ⟨bm, 0, none⟩) nm cm) vq t) :: fiRow vl s.log :: intRow (.slice (some ⟨bm, 0, none⟩) nm cm) s.m :: evRow vq s.q :: more) ∧ Below w0.heap.size w0 w

/-- 'append(v, e)' -/
theorem run_push_ev {B : Nat} {v : Value} {l : List Ev} (ty : TypeId) (x : Ev) {w : World} (h : OwnE B w v l) (hl : l.length ≤ 1000000) (hB : B ≤ w.heap.size) :
    ∃ v' w', (Builtin.append_ #[61, 61] ty #[v, .slice (some ⟨w.heap.size, 0, none⟩) 1 1]).run Try.prog (w.alloc (.cells #[.int .i64 x.time, .int .i64 x.place, .int .i64 x.n] 65)) = .ok v' w' ∧ OwnE B w' v' (l ++ [x]) ∧
      Kept (fun k => v.ownBlock = some k) w w' ∧ (v'.ownBlock = v.ownBlock ∨ v'.ownBlock = some (w.heap.size + 1)) := by
  obtain ⟨i0, hi0, hz0, hz1, hz2⟩ := info_parts Try.infoEv
  obtain ⟨v', w', hr, h2, h3, _, h5⟩ := run_append_own_at (P := Try.prog) (w.alloc (.cells #[.int .i64 x.time, .int .i64 x.place, .int .i64 x.n] 65)) B 61 ty 65 i0 _ 3 24 Try.underlying61 hi0 hz0 hz1 hz2 rfl (by omega) v l.length (l.flatMap evL) (h.alloc _)
    ⟨w.heap.size, 0, none⟩ 1 1 (evL x) rfl (cell_newL w _ _) (by simp [evL, Value.oneCell']) (by unfold maxLen; omega) (by omega) (by simp; omega)
  exact ⟨v', w', hr, by rw [OwnE, List.flatMap_append, List.length_append]; simpa using h2, ((Kept.refl _ w).alloc _).grown h3 (fun _ h => h), by simpa using h5⟩
theorem run_push_fi {B : Nat} {v : Value} {l : List (Int × Int)} (ty : TypeId) (x y : Int) {w : World} (h : OwnF B w v l) (hl : l.length ≤ 1000000) (hB : B ≤ w.heap.size) :
    ∃ v' w', (Builtin.append_ #[33, 33] ty #[v, .slice (some ⟨w.heap.size, 0, none⟩) 1 1]).run Try.prog (w.alloc (.cells #[.int .i64 x, .int .i64 y] 72)) = .ok v' w' ∧ OwnF B w' v' (l ++ [(x, y)]) ∧
      Kept (fun k => v.ownBlock = some k) w w' ∧ (v'.ownBlock = v.ownBlock ∨ v'.ownBlock = some (w.heap.size + 1)) := by
  obtain ⟨i0, hi0, hz0, hz1, hz2⟩ := info_parts Try.infoFi
  obtain ⟨v', w', hr, h2, h3, _, h5⟩ := run_append_own_at (P := Try.prog) (w.alloc (.cells #[.int .i64 x, .int .i64 y] 72)) B 33 ty 72 i0 _ 2 16 Try.underlying33 hi0 hz0 hz1 hz2 rfl (by omega) v l.length (l.flatMap fiL) (h.alloc _)
    ⟨w.heap.size, 0, none⟩ 1 1 (fiL (x, y)) rfl (cell_newL w _ _) (by simp [fiL, Value.oneCell']) (by unfold maxLen; omega) (by omega) (by simp; omega)
  exact ⟨v', w', hr, by rw [OwnF, List.flatMap_append, List.length_append]; simpa using h2, ((Kept.refl _ w).alloc _).grown h3 (fun _ h => h), by simpa using h5⟩

/-- 'append(v, e)' where there is room: in place -/
theorem run_push_room {w : World} (ty : TypeId) (x : Ev) {g L cap : Nat} {cur : Array Value} (hg : w.heap[g]? = some (.cells cur 65 (0, 0))) (hc : cur.size = cap * 3) (hL : L + 1 ≤ cap) :
    (Builtin.append_ #[61, 61] ty #[.slice (some ⟨g, 0, none⟩) L cap, .slice (some ⟨w.heap.size, 0, none⟩) 1 1]).run Try.prog (w.alloc (.cells #[.int .i64 x.time, .int .i64 x.place, .int .i64 x.n] 65)) =
      .ok (.slice (some ⟨g, 0, none⟩) (L + 1) cap) ((w.alloc (.cells #[.int .i64 x.time, .int .i64 x.place, .int .i64 x.n] 65)).setRow g (cur.toList.take (L * 3) ++ evL x ++ cur.toList.drop (L * 3 + 3)).toArray) := by
  obtain ⟨i0, hi0, hz0, hz1, hz2⟩ := info_parts Try.infoEv
  have hlt : g < w.heap.size := (Array.getElem?_eq_some_iff.1 hg).1
  have hg2 : (w.alloc (.cells #[.int .i64 x.time, .int .i64 x.place, .int .i64 x.n] 65)).heap[g]? = some (.cells cur 65 (0, 0)) := (heap_alloc_old w _ hlt).trans hg
  have hs : Src Try.prog 3 61 (.slice (some ⟨w.heap.size, 0, none⟩) 1 1) 1 (evL x) (w.alloc (.cells #[.int .i64 x.time, .int .i64 x.place, .int .i64 x.n] 65)) :=
    Src.ofSlice _ Try.underlying61 ⟨w.heap.size, 0, none⟩ 1 1 (evL x) rfl (fun j u hu => cell_newL w _ _ j u hu) (by simp [evL, Value.oneCell'])
  have hst := run_storeCells_at (P := Try.prog) g (L * 3) 65 (evL x) 0 cur _ hg2 (by rw [evL_len, hc]; omega) hs.one
  simp only [Nat.add_zero] at hst
  rcases hs.kind with ⟨e', hk⟩ | hk
  · simp [Builtin.append_, run_underlying Try.underlying61, sizeOf, typeInfo, hi0, hs.len, hz1, hL, hs.cells, Addr.add_lit, hst, evL_len]
  · rw [Try.underlying61] at hk; cases hk

section
variable {w0 w w' : World} {b bm nm cm : Nat} {vp vt : Value} {t : Int} {s : St} {more : List Row}
theorem RunAt.go (h : RunAt w0 w b vp vt bm nm cm t s more) (hb : Below w.heap.size w w') : RunAt w0 w' b vp vt bm nm cm t s more := by
  obtain ⟨vl, vq, h1, h2⟩ := h
  exact ⟨vl, vq, h1.below hb, h2.trans (hb.mono h2.size)⟩
end

set_option maxRecDepth 100000 in
set_option maxHeartbeats 4000000 in
theorem next_any {w : World} {b nq cq : Nat} {aq : Option Addr} {q : List Ev} (hnq : nq = q.length) (hb : b < w.heap.size) (hc : w.cell? ⟨b, 4, none⟩ = some (.slice aq nq cq)) (h : EvsAt w (.slice aq nq cq) q) (z : Int) (hz : z = nextT q) :
    Calls Try.prog 59 #[.pointer (some ⟨b, 0, none⟩)] w fun e w' => e = .returned (.int .i64 z) ∧ Below w.heap.size w w' := by
  have hmax : nq ≤ 9223372036854775807 := by have := RowAt.max h; omega
  have Hnq := Lib.hid hnq
  have HE := Lib.hid h
  have HZ := Lib.hid hz
  clear hnq h hz
  go_enter Try.func59, Try.ntmps59
  go_wp2
  clear hc
  go_loopw [3, 11] (fun z i wr => ∃ (k : Nat) (y : Int), k ≤ nq ∧ i = .int .i64 k ∧ z = .int .i64 y ∧ Below w.heap.size w wr ∧ Hid (y = nextT (q.take k))) (fun _ i _ => nq - (intOf i).toNat)
  case atStart => exact ⟨0, -1, by omega, rfl, rfl, Below.refl _ _, Lib.hid rfl⟩
  case round =>
    rename World => v1
    obtain ⟨k, y, hk, rfl, rfl, hbl, Hy⟩ := hrel
    by_cases hlt : k < nq
    · obtain ⟨x, hx⟩ := at_lt (l := q) (k := k) (by rw [← Hnq.out]; exact hlt)
      have hlti : (k : Int) < (nq : Int) := by omega
      obtain ⟨g, off, rfl, hgw, e0, e1, e2⟩ := (HE.out.below hbl).at_ hx
      have hn := nextT_take hx
      rw [← Hy.out] at hn
      have Hn := Lib.hid hn
      obtain ⟨xt, xp, xn⟩ := x
      have Hb := Lib.hid (hbl.trans (((Below.refl _ v1).alloc (Nat.le_refl _) (.cells #[.int .i64 xt, .int .i64 xp, .int .i64 xn] 65)).mono hbl.size))
      clear hn hx hbl
      simp only at e0 e1 e2 Hn
      by_cases g1 : y < 0
      · have Hr : Hid (xt = nextT (q.take (k + 1))) := Lib.hid (by rw [Hn.out, if_pos (.inl g1)])
        go_wp2
        go_roundw
        case rel => exact ⟨k + 1, xt, by omega, by go_num, rfl, Hb.out, Hr⟩
        case measure => simp [intOf]; omega
      · have g1b : decide (y < 0) = false := decide_eq_false g1
        by_cases g2 : xt < y
        · have Hr : Hid (xt = nextT (q.take (k + 1))) := Lib.hid (by rw [Hn.out, if_pos (.inr g2)])
          go_wp2
          go_roundw
          case rel => exact ⟨k + 1, xt, by omega, by go_num, rfl, Hb.out, Hr⟩
          case measure => simp [intOf]; omega
        · have g2b : decide (xt < y) = false := decide_eq_false g2
          have Hr : Hid (y = nextT (q.take (k + 1))) := Lib.hid (by rw [Hn.out, if_neg (by omega)])
          go_wp2
          go_roundw
          case rel => exact ⟨k + 1, y, by omega, by go_num, rfl, Hb.out, Hr⟩
          case measure => simp [intOf]; omega
    · have hge : ¬ (k : Int) < (nq : Int) := by omega
      obtain rfl : z = y := by rw [HZ.out, Hy.out, List.take_of_length_le (by rw [← Hnq.out]; omega)]
      have Hb := Lib.hid hbl
      clear hbl
      go_wp2
      go_ret
      exact ⟨rfl, Hb.out⟩
end Go.Proofs.Ytpfdmmidomofdaa
