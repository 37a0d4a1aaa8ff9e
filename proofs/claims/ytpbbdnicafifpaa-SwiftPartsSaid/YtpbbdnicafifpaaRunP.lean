/-
  A run's box: its net, its firings, its tokens, what is under way, its time. What next comes to; what append of one event comes to where there is room. What arrive comes to: all tokens that are due are put where they go, the others stay under way. What arrive comes to: all tokens that are due are put where they go, the others stay under way. A run's box beside others: one more event, one more firing. What refuse comes to.
  Conditions: none beyond each theorem's own.
-/
import Derived.Test.YtpbbdnicafifpaaRunMath
import Derived.Deep.RegionLaw
import Derived.BigRegion
/-! ## RunA -/
namespace Go.Proofs.Ytpbbdnicafifpaa
open Go.RowKit
set_option linter.unusedVariables false

def fiL (f : Int × Int) : List Value := [.int .i64 f.1, .int .i64 f.2]
def evL (e : Ev) : List Value := [.int .i64 e.time, .int .i64 e.place, .int .i64 e.n]
theorem fiL_len (f : Int × Int) : (fiL f).length = 2 := rfl
theorem evL_len (e : Ev) : (evL e).length = 3 := rfl
def fiRow (v : Value) (l : List (Int × Int)) : Row := ⟨55, 2, v, l.length, l.flatMap fiL⟩
def evRow (v : Value) (l : List Ev) : Row := ⟨74, 3, v, l.length, l.flatMap evL⟩
def FisAt (w : World) (v : Value) (l : List (Int × Int)) : Prop := RowAt 2 w v l.length (l.flatMap fiL)
def EvsAt (w : World) (v : Value) (l : List Ev) : Prop := RowAt 3 w v l.length (l.flatMap evL)
abbrev OwnE (B : Nat) (w : World) (v : Value) (l : List Ev) : Prop := w.ownsRow B 74 3 v l.length (l.flatMap evL)
abbrev OwnF (B : Nat) (w : World) (v : Value) (l : List (Int × Int)) : Prop := w.ownsRow B 55 2 v l.length (l.flatMap fiL)
theorem Try.infoEv : (Try.prog.info? 74).map (fun i => (i.zero, i.size, i.bytes)) = some (some (.agg #[.int .i64 0, .int .i64 0, .int .i64 0]), 3, 24) := by kernel_rfl
theorem Try.infoFi : (Try.prog.info? 55).map (fun i => (i.zero, i.size, i.bytes)) = some (some (.agg #[.int .i64 0, .int .i64 0]), 2, 16) := by kernel_rfl

theorem EvsAt.below {w w' : World} {v : Value} {l : List Ev} (h : EvsAt w v l) (hb : Below w.heap.size w w') : EvsAt w' v l := RowAt.below h hb
theorem EvsAt.at_ {w : World} {l : List Ev} {a : Option Addr} {n cap : Nat} (h : EvsAt w (.slice a n cap) l) {i : Nat} {x : Ev} (hi : l[i]? = some x) :
    ∃ b off, a = some ⟨b, off, none⟩ ∧ b < w.heap.size ∧ w.cell? ⟨b, off + i * 3, none⟩ = some (.int .i64 x.time) ∧ w.cell? ⟨b, off + i * 3 + 1, none⟩ = some (.int .i64 x.place) ∧ w.cell? ⟨b, off + i * 3 + 2, none⟩ = some (.int .i64 x.n) := by
  obtain ⟨b, off, e, hb, hc⟩ := RowAt.elem evL_len h hi
  exact ⟨b, off, e, hb, hc 0 _ rfl, hc 1 _ rfl, hc 2 _ rfl⟩
theorem FisAt.below {w w' : World} {v : Value} {l : List (Int × Int)} (h : FisAt w v l) (hb : Below w.heap.size w w') : FisAt w' v l := RowAt.below h hb
theorem FisAt.at_ {w : World} {l : List (Int × Int)} {a : Option Addr} {n cap : Nat} (h : FisAt w (.slice a n cap) l) {i : Nat} {x : Int × Int} (hi : l[i]? = some x) :
    ∃ b off, a = some ⟨b, off, none⟩ ∧ b < w.heap.size ∧ w.cell? ⟨b, off + i * 2, none⟩ = some (.int .i64 x.1) ∧ w.cell? ⟨b, off + i * 2 + 1, none⟩ = some (.int .i64 x.2) := by
  obtain ⟨b, off, e, hb, hc⟩ := RowAt.elem fiL_len h hi
  exact ⟨b, off, e, hb, hc 0 _ rfl, hc 1 _ rfl⟩

def runCs (vp vt vl vm vq : Value) (t : Int) : List Value := [vp, vt, vl, vm, vq, .int .i64 t]
/-- a run in block b, over what lies below w0's end; its tokens in block bm -/
def RunAt (w0 w : World) (b : Nat) (vp vt : Value) (bm nm cm : Nat) (t : Int) (s : St) (more : List Row) : Prop :=
  ∃ vl vq, AllOwn w0.heap.size w (boxRow b 100 (runCs vp vt vl (.slice (some ⟨bm, 0, none⟩) nm cm) vq t) :: fiRow vl s.log :: intRow (.slice (some ⟨bm, 0, none⟩) nm cm) s.m :: evRow vq s.q :: more) ∧ Below w0.heap.size w0 w

/-- 'append(v, e)' -/
theorem run_push_ev {B : Nat} {v : Value} {l : List Ev} (ty : TypeId) (x : Ev) {w : World} (h : OwnE B w v l) (hl : l.length ≤ 1000000) (hB : B ≤ w.heap.size) :
    ∃ v' w', (Builtin.append_ #[70, 70] ty #[v, .slice (some ⟨w.heap.size, 0, none⟩) 1 1]).run Try.prog (w.alloc (.cells #[.int .i64 x.time, .int .i64 x.place, .int .i64 x.n] 74)) = .ok v' w' ∧ OwnE B w' v' (l ++ [x]) ∧
      Kept (fun k => v.ownBlock = some k) w w' ∧ (v'.ownBlock = v.ownBlock ∨ v'.ownBlock = some (w.heap.size + 1)) := by
  obtain ⟨i0, hi0, hz0, hz1, hz2⟩ := info_parts Try.infoEv
  obtain ⟨v', w', hr, h2, h3, _, h5⟩ := run_append_own_at (P := Try.prog) (w.alloc (.cells #[.int .i64 x.time, .int .i64 x.place, .int .i64 x.n] 74)) B 70 ty 74 i0 _ 3 24 Try.underlying70 hi0 hz0 hz1 hz2 rfl (by omega) v l.length (l.flatMap evL) (h.alloc _)
    ⟨w.heap.size, 0, none⟩ 1 1 (evL x) rfl (cell_newL w _ _) (by simp [evL, Value.oneCell']) (by unfold maxLen; omega) (by omega) (by simp; omega)
  exact ⟨v', w', hr, by rw [OwnE, List.flatMap_append, List.length_append]; simpa using h2, ((Kept.refl _ w).alloc _).grown h3 (fun _ h => h), by simpa using h5⟩
theorem run_push_fi {B : Nat} {v : Value} {l : List (Int × Int)} (ty : TypeId) (x y : Int) {w : World} (h : OwnF B w v l) (hl : l.length ≤ 1000000) (hB : B ≤ w.heap.size) :
    ∃ v' w', (Builtin.append_ #[49, 49] ty #[v, .slice (some ⟨w.heap.size, 0, none⟩) 1 1]).run Try.prog (w.alloc (.cells #[.int .i64 x, .int .i64 y] 55)) = .ok v' w' ∧ OwnF B w' v' (l ++ [(x, y)]) ∧
      Kept (fun k => v.ownBlock = some k) w w' ∧ (v'.ownBlock = v.ownBlock ∨ v'.ownBlock = some (w.heap.size + 1)) := by
  obtain ⟨i0, hi0, hz0, hz1, hz2⟩ := info_parts Try.infoFi
  obtain ⟨v', w', hr, h2, h3, _, h5⟩ := run_append_own_at (P := Try.prog) (w.alloc (.cells #[.int .i64 x, .int .i64 y] 55)) B 49 ty 55 i0 _ 2 16 Try.underlying49 hi0 hz0 hz1 hz2 rfl (by omega) v l.length (l.flatMap fiL) (h.alloc _)
    ⟨w.heap.size, 0, none⟩ 1 1 (fiL (x, y)) rfl (cell_newL w _ _) (by simp [fiL, Value.oneCell']) (by unfold maxLen; omega) (by omega) (by simp; omega)
  exact ⟨v', w', hr, by rw [OwnF, List.flatMap_append, List.length_append]; simpa using h2, ((Kept.refl _ w).alloc _).grown h3 (fun _ h => h), by simpa using h5⟩

/-- 'append(v, e)' where there is room: in place -/
theorem run_push_room {w : World} (ty : TypeId) (x : Ev) {g L cap : Nat} {cur : Array Value} (hg : w.heap[g]? = some (.cells cur 74 (0, 0))) (hc : cur.size = cap * 3) (hL : L + 1 ≤ cap) :
    (Builtin.append_ #[70, 70] ty #[.slice (some ⟨g, 0, none⟩) L cap, .slice (some ⟨w.heap.size, 0, none⟩) 1 1]).run Try.prog (w.alloc (.cells #[.int .i64 x.time, .int .i64 x.place, .int .i64 x.n] 74)) =
      .ok (.slice (some ⟨g, 0, none⟩) (L + 1) cap) ((w.alloc (.cells #[.int .i64 x.time, .int .i64 x.place, .int .i64 x.n] 74)).setRow g (cur.toList.take (L * 3) ++ evL x ++ cur.toList.drop (L * 3 + 3)).toArray) := by
  obtain ⟨i0, hi0, hz0, hz1, hz2⟩ := info_parts Try.infoEv
  have hlt : g < w.heap.size := (Array.getElem?_eq_some_iff.1 hg).1
  have hg2 : (w.alloc (.cells #[.int .i64 x.time, .int .i64 x.place, .int .i64 x.n] 74)).heap[g]? = some (.cells cur 74 (0, 0)) := (heap_alloc_old w _ hlt).trans hg
  have hs : Src Try.prog 3 70 (.slice (some ⟨w.heap.size, 0, none⟩) 1 1) 1 (evL x) (w.alloc (.cells #[.int .i64 x.time, .int .i64 x.place, .int .i64 x.n] 74)) :=
    Src.ofSlice _ Try.underlying70 ⟨w.heap.size, 0, none⟩ 1 1 (evL x) rfl (fun j u hu => cell_newL w _ _ j u hu) (by simp [evL, Value.oneCell'])
  have hst := run_storeCells_at (P := Try.prog) g (L * 3) 74 (evL x) 0 cur _ hg2 (by rw [evL_len, hc]; omega) hs.one
  simp only [Nat.add_zero] at hst
  rcases hs.kind with ⟨e', hk⟩ | hk
  · simp [Builtin.append_, run_underlying Try.underlying70, sizeOf, typeInfo, hi0, hs.len, hz1, hL, hs.cells, Addr.add_lit, hst, evL_len]
  · rw [Try.underlying70] at hk; cases hk

section
variable {w0 w w' : World} {b bm nm cm : Nat} {vp vt : Value} {t : Int} {s : St} {more : List Row}
theorem RunAt.go (h : RunAt w0 w b vp vt bm nm cm t s more) (hb : Below w.heap.size w w') : RunAt w0 w' b vp vt bm nm cm t s more := by
  obtain ⟨vl, vq, h1, h2⟩ := h
  exact ⟨vl, vq, h1.below hb, h2.trans (hb.mono h2.size)⟩
end

set_option maxRecDepth 100000 in
set_option maxHeartbeats 4000000 in
theorem next_any {w : World} {b nq cq : Nat} {aq : Option Addr} {q : List Ev} (hnq : nq = q.length) (hb : b < w.heap.size) (hc : w.cell? ⟨b, 4, none⟩ = some (.slice aq nq cq)) (h : EvsAt w (.slice aq nq cq) q) (z : Int) (hz : z = nextT q) :
    Calls Try.prog 79 #[.pointer (some ⟨b, 0, none⟩)] w fun e w' => e = .returned (.int .i64 z) ∧ Below w.heap.size w w' := by
  have hmax : nq ≤ 9223372036854775807 := by have := RowAt.max h; omega
  have Hnq := Lib.hid hnq
  have HE := Lib.hid h
  have HZ := Lib.hid hz
  clear hnq h hz
  go_enter Try.func79, Try.ntmps79
  go_wp2
  clear hc
  go_loopw [3, 11] (fun z i wr => ∃ (k : Nat) (y : Int), k ≤ nq ∧ i = .int .i64 k ∧ z = .int .i64 y ∧ Below w.heap.size w wr ∧ Hid (y = nextT (q.take k))) (fun _ i _ => nq - (intOf i).toNat)
  case atStart => exact ⟨0, -1, by omega, rfl, rfl, Below.refl _ _, Lib.hid rfl⟩
  case round =>
    rename World => v1
    obtain ⟨k, y, hk, rfl, rfl, hbl, Hy⟩ := hrel
    by_cases hlt : k < nq
    · obtain ⟨x, hx⟩ := at_lt (l := q) (k := k) (by rw [← Hnq.out]; exact hlt)
      have hlti : (k : Int) < (nq : Int) := by omega
      obtain ⟨g, off, rfl, hgw, e0, e1, e2⟩ := (HE.out.below hbl).at_ hx
      have hn := nextT_take hx
      rw [← Hy.out] at hn
      have Hn := Lib.hid hn
      obtain ⟨xt, xp, xn⟩ := x
      have Hb := Lib.hid (hbl.trans (((Below.refl _ v1).alloc (Nat.le_refl _) (.cells #[.int .i64 xt, .int .i64 xp, .int .i64 xn] 74)).mono hbl.size))
      clear hn hx hbl
      simp only at e0 e1 e2 Hn
      by_cases g1 : y < 0
      · have Hr : Hid (xt = nextT (q.take (k + 1))) := Lib.hid (by rw [Hn.out, if_pos (.inl g1)])
        go_wp2
        go_roundw
        case rel => exact ⟨k + 1, xt, by omega, by go_num, rfl, Hb.out, Hr⟩
        case measure => simp [intOf]; omega
      · have g1b : decide (y < 0) = false := decide_eq_false g1
        by_cases g2 : xt < y
        · have Hr : Hid (xt = nextT (q.take (k + 1))) := Lib.hid (by rw [Hn.out, if_pos (.inr g2)])
          go_wp2
          go_roundw
          case rel => exact ⟨k + 1, xt, by omega, by go_num, rfl, Hb.out, Hr⟩
          case measure => simp [intOf]; omega
        · have g2b : decide (xt < y) = false := decide_eq_false g2
          have Hr : Hid (y = nextT (q.take (k + 1))) := Lib.hid (by rw [Hn.out, if_neg (by omega)])
          go_wp2
          go_roundw
          case rel => exact ⟨k + 1, y, by omega, by go_num, rfl, Hb.out, Hr⟩
          case measure => simp [intOf]; omega
    · have hge : ¬ (k : Int) < (nq : Int) := by omega
      obtain rfl : z = y := by rw [HZ.out, Hy.out, List.take_of_length_le (by rw [← Hnq.out]; omega)]
      have Hb := Lib.hid hbl
      clear hbl
      go_wp2
      go_ret
      exact ⟨rfl, Hb.out⟩
end Go.Proofs.Ytpbbdnicafifpaa

/-! ## RunB -/
namespace Go.Proofs.Ytpbbdnicafifpaa
open Go.RowKit
set_option linter.unusedVariables false

/-- what is not read yet of a row of events that is written from its head on -/
def Rest (wr : World) (aq : Option Addr) (nq cq k : Nat) (q : List Ev) : Prop :=
  ∀ g, aq = some ⟨g, 0, none⟩ → ∃ cur : Array Value, wr.heap[g]? = some (.cells cur 74 (0, 0)) ∧ cur.size = cq * 3 ∧ nq ≤ cq ∧ cq ≤ maxLen ∧ (cur.toList.take (nq * 3)).drop (k * 3) = (q.drop k).flatMap evL

theorem Rest.kept {S : Nat → Prop} {w w' : World} {aq : Option Addr} {nq cq k : Nat} {q : List Ev} (h : Rest w aq nq cq k q) (hk : Kept S w w') (hS : ∀ g, aq = some ⟨g, 0, none⟩ → ¬ S g) : Rest w' aq nq cq k q := by
  intro g hg
  obtain ⟨cur, h1, h2⟩ := h g hg
  exact ⟨cur, (hk.block g (Array.getElem?_eq_some_iff.1 h1).1 (hS g hg)).trans h1, h2⟩

theorem Rest.start {B : Nat} {w : World} {aq : Option Addr} {nq cq : Nat} {q : List Ev} (h : OwnE B w (.slice aq nq cq) q) : Rest w aq nq cq 0 q ∧ OwnE B w (.slice aq 0 cq) [] ∧ nq = q.length ∧ (aq = none ∧ nq = 0 ∧ cq = 0 ∨ ∃ g, aq = some ⟨g, 0, none⟩ ∧ nq ≤ cq ∧ cq ≤ maxLen) := by
  rcases h.2 with ⟨h1, h0⟩ | ⟨r, cap, cur, h1, hB, hb, hc1, hc2, hc3, hc4⟩
  · injection h1 with e1 e2 e3
    subst e1 e2 e3
    exact ⟨fun g hg => (by cases hg), ⟨rfl, .inl ⟨rfl, rfl⟩⟩, h0.symm, .inl ⟨rfl, rfl, rfl⟩⟩
  · injection h1 with e1 e2 e3
    subst e1 e2 e3
    refine ⟨fun g hg => ?_, ⟨rfl, .inr ⟨r, cq, cur, rfl, hB, hb, Nat.zero_le _, hc2, hc3, by simp⟩⟩, rfl, .inr ⟨r, rfl, hc1, hc2⟩⟩
    injection hg with hg
    injection hg with hg
    subst hg
    exact ⟨cur, hb, hc3, hc1, hc2, by rw [Nat.zero_mul, List.drop_zero, List.drop_zero]; exact hc4⟩

theorem Rest.at_ {w : World} {aq : Option Addr} {nq cq k g : Nat} {q : List Ev} (h : Rest w aq nq cq k q) (hg : aq = some ⟨g, 0, none⟩) {x : Ev} (hx : q[k]? = some x) :
    g < w.heap.size ∧ w.cell? ⟨g, k * 3, none⟩ = some (.int .i64 x.time) ∧ w.cell? ⟨g, k * 3 + 1, none⟩ = some (.int .i64 x.place) ∧ w.cell? ⟨g, k * 3 + 2, none⟩ = some (.int .i64 x.n) := by
  obtain ⟨cur, h1, h2, h3, h4, h5⟩ := h g hg
  rw [drop_at hx, List.flatMap_cons] at h5
  have hc : ∀ j y, (evL x)[j]? = some y → w.cell? ⟨g, k * 3 + j, none⟩ = some y := by
    intro j y hj
    rw [cell_of_row w g (k * 3 + j) _ _ (0, 0) h1]
    have e1 : ((cur.toList.take (nq * 3)).drop (k * 3))[j]? = some y := by
      rw [h5, List.getElem?_append_left (lt_at hj)]; exact hj
    rw [List.getElem?_drop, List.getElem?_take] at e1
    split at e1
    · rw [← e1]; simp
    · cases e1
  exact ⟨(Array.getElem?_eq_some_iff.1 h1).1, hc 0 _ rfl, hc 1 _ rfl, hc 2 _ rfl⟩

theorem Rest.skip {w : World} {aq : Option Addr} {nq cq k : Nat} {q : List Ev} (h : Rest w aq nq cq k q) {x : Ev} (hx : q[k]? = some x) : Rest w aq nq cq (k + 1) q := by
  intro g hg
  obtain ⟨cur, h1, h2, h3, h4, h5⟩ := h g hg
  refine ⟨cur, h1, h2, h3, h4, ?_⟩
  rw [drop_at hx, List.flatMap_cons] at h5
  have e : (k + 1) * 3 = k * 3 + 3 := by omega
  rw [e, ← List.drop_drop, h5]
  rfl

set_option maxRecDepth 100000 in
/-- one event written at the head's end, in place -/
theorem Rest.put {B : Nat} {w : World} {g nq cq k : Nat} {q l : List Ev} {pre more : List Row} (h : Rest w (some ⟨g, 0, none⟩) nq cq k q) (hall : AllOwn B w (pre ++ evRow (.slice (some ⟨g, 0, none⟩) l.length cq) l :: more)) (hlk : l.length ≤ k) (hk : k < nq) {x : Ev} (hx : q[k]? = some x) (ty : TypeId) :
    ∃ W, (Builtin.append_ #[70, 70] ty #[.slice (some ⟨g, 0, none⟩) l.length cq, .slice (some ⟨w.heap.size, 0, none⟩) 1 1]).run Try.prog (w.alloc (.cells #[.int .i64 x.time, .int .i64 x.place, .int .i64 x.n] 74)) = .ok (.slice (some ⟨g, 0, none⟩) (l.length + 1) cq) W ∧
      AllOwn B W (pre ++ evRow (.slice (some ⟨g, 0, none⟩) (l.length + 1) cq) (l ++ [x]) :: more) ∧ Rest W (some ⟨g, 0, none⟩) nq cq (k + 1) q ∧ Kept (fun j => j = g) w W := by
  obtain ⟨cur, h1, h2, h3, h4, h5⟩ := h g rfl
  have hr := run_push_room (w := w) ty x h1 h2 (L := l.length) (by omega)
  have hlt : g < w.heap.size := (Array.getElem?_eq_some_iff.1 h1).1
  have hg2 : (w.alloc (.cells #[.int .i64 x.time, .int .i64 x.place, .int .i64 x.n] 74)).heap[g]? = some (.cells cur 74 (0, 0)) := (heap_alloc_old w _ hlt).trans h1
  have ho := hall.own (evRow (.slice (some ⟨g, 0, none⟩) l.length cq) l) (by simp)
  have hcl : cur.toList.length = cq * 3 := by simpa using h2
  have htk : cur.toList.take (l.length * 3) = l.flatMap evL := by
    rcases ho.2 with ⟨e, _⟩ | ⟨r, cap, cur', e, hB, hb, _, _, _, e4⟩
    · cases e
    · replace e : Value.slice (some ⟨g, 0, none⟩) l.length cq = .slice (some ⟨r, 0, none⟩) l.length cap := e
      simp only [Value.slice.injEq, Option.some.injEq, Addr.mk.injEq, true_and, and_true] at e
      obtain ⟨rfl, rfl⟩ := e
      replace hb : w.heap[g]? = some (.cells cur' 74 (0, 0)) := hb
      rw [hb] at h1
      injection h1 with h1
      injection h1 with h1
      subst h1
      exact e4
  have hBg : B ≤ g := (Row.lt ho rfl).1
  have hkp : Kept (fun j => j = g) w ((w.alloc (.cells #[.int .i64 x.time, .int .i64 x.place, .int .i64 x.n] 74)).setRow g (cur.toList.take (l.length * 3) ++ evL x ++ cur.toList.drop (l.length * 3 + 3)).toArray) :=
    ((Kept.refl _ w).alloc _).trans ⟨rfl, rfl, rfl, by simp, fun j _ hj => setRow_other _ _ _ _ hj⟩
  have hset := setRow_heap _ g cur (cur.toList.take (l.length * 3) ++ evL x ++ cur.toList.drop (l.length * 3 + 3)).toArray _ _ hg2
  have hlen : (cur.toList.take (l.length * 3) ++ evL x ++ cur.toList.drop (l.length * 3 + 3)).length = cq * 3 := by
    simp only [List.length_append, List.length_take, List.length_drop, evL_len, hcl]
    omega
  have ht1 : (cur.toList.take (l.length * 3)).length = l.length * 3 := by rw [List.length_take, hcl]; omega
  refine ⟨_, hr, ?_, ?_, hkp⟩
  · refine AllOwn.swap hall (hkp.mono (fun j _ e => by subst e; rfl)) (r' := evRow (.slice (some ⟨g, 0, none⟩) (l.length + 1) cq) (l ++ [x])) ?_ (.inl rfl)
    refine ⟨flat_len evL_len _, .inr ⟨g, cq, _, by simp [evRow], hBg, hset, ?_, h4, by show (cur.toList.take (l.length * 3) ++ evL x ++ cur.toList.drop (l.length * 3 + 3)).toArray.size = cq * 3; rw [List.size_toArray]; exact hlen, ?_⟩⟩
    · show (l ++ [x]).length ≤ cq
      rw [List.length_append, List.length_singleton]; omega
    · show ((cur.toList.take (l.length * 3) ++ evL x ++ cur.toList.drop (l.length * 3 + 3)).toArray.toList.take ((l ++ [x]).length * 3)) = (l ++ [x]).flatMap evL
      have e1 : (l ++ [x]).length * 3 = (cur.toList.take (l.length * 3) ++ evL x).length := by simp only [List.length_append, List.length_singleton, ht1, evL_len]; omega
      rw [e1, List.take_left, htk, List.flatMap_append]
      simp
  · intro g' hg'
    injection hg' with hg'
    injection hg' with hg'
    subst hg'
    refine ⟨_, hset, by rw [List.size_toArray]; exact hlen, h3, h4, ?_⟩
    have e2 := Rest.skip h hx g rfl
    obtain ⟨cur2, i1, i2, _, _, i5⟩ := e2
    rw [i1] at h1
    injection h1 with h1
    injection h1 with h1
    subst h1
    rw [← i5]
    apply List.ext_getElem?
    intro j
    simp only [List.getElem?_drop, List.getElem?_take]
    split
    · have e3 : (cur2.toList.take (l.length * 3) ++ evL x).length ≤ (k + 1) * 3 + j := by rw [List.length_append, ht1, evL_len]; omega
      rw [List.getElem?_append_right e3, List.getElem?_drop]
      have e4 : l.length * 3 + 3 + ((k + 1) * 3 + j - (cur2.toList.take (l.length * 3) ++ evL x).length) = (k + 1) * 3 + j := by rw [List.length_append, ht1, evL_len]; omega
      rw [e4]
    · rfl
end Go.Proofs.Ytpbbdnicafifpaa

/-! ## RunC -/
namespace Go.Proofs.Ytpbbdnicafifpaa
open Go.RowKit
set_option linter.unusedVariables false

structure Arr (w0 wr : World) (b : Nat) (vp vt vl : Value) (bm nm cm : Nat) (t : Int) (s : St) (more : List Row) (aq : Option Addr) (nq cq k L : Nat) : Prop where
  all : AllOwn w0.heap.size wr ([boxRow b 100 (runCs vp vt vl (.slice (some ⟨bm, 0, none⟩) nm cm) (.slice aq nq cq) t), fiRow vl s.log, intRow (.slice (some ⟨bm, 0, none⟩) nm cm) (arrM t (s.q.take k) s.m)] ++ evRow (.slice aq L cq) ((s.q.take k).filter (late t)) :: more)
  below : Below w0.heap.size w0 wr
  rest : Rest wr aq nq cq k s.q
  len : L = ((s.q.take k).filter (late t)).length

section
variable {w0 wr w' : World} {b : Nat} {vp vt vl : Value} {bm nm cm : Nat} {t : Int} {s : St} {more : List Row} {aq : Option Addr} {nq cq k L : Nat}
theorem Arr.go (h : Arr w0 wr b vp vt vl bm nm cm t s more aq nq cq k L) (hb : Below wr.heap.size wr w') : Arr w0 w' b vp vt vl bm nm cm t s more aq nq cq k L :=
  ⟨h.all.below hb, h.below.trans (hb.mono h.below.size), h.rest.kept (Kept.of_below (S := fun _ => False) hb) (fun _ _ e => e), h.len⟩
theorem Arr.box (h : Arr w0 wr b vp vt vl bm nm cm t s more aq nq cq k L) : (boxRow b 100 (runCs vp vt vl (.slice (some ⟨bm, 0, none⟩) nm cm) (.slice aq nq cq) t)).own w0.heap.size wr := h.all.own _ (by simp)
theorem Arr.put (h : Arr w0 wr b vp vt vl bm nm cm t s more aq nq cq k L) (hk : k < nq) {g : Nat} (hg : aq = some ⟨g, 0, none⟩) {x : Ev} (hx : s.q[k]? = some x) (hl : late t x = true) (ty : TypeId) :
    ∃ W, (Builtin.append_ #[70, 70] ty #[.slice aq L cq, .slice (some ⟨wr.heap.size, 0, none⟩) 1 1]).run Try.prog (wr.alloc (.cells #[.int .i64 x.time, .int .i64 x.place, .int .i64 x.n] 74)) = .ok (.slice aq (L + 1) cq) W ∧
      Arr w0 W b vp vt vl bm nm cm t s more aq nq cq (k + 1) (L + 1) := by
  subst hg
  have hlen := h.len
  have hall := h.all
  have hB := h.below
  have hrest := h.rest
  have hlk := late_len t s.q k
  subst hlen
  obtain ⟨W, h1, h2, h3, h4⟩ := Rest.put hrest hall hlk hk hx ty
  have hdue : due t x = false := by rw [late_not] at hl; simpa using hl
  refine ⟨W, h1, ?_, hB.trans (h4.below (fun j e => by subst e; exact (Row.lt (hall.own (evRow (.slice (some ⟨j, 0, none⟩) ((s.q.take k).filter (late t)).length cq) ((s.q.take k).filter (late t))) (by simp)) rfl).1) hB.size), h3, ?_⟩
  · rw [late_next hx hl, arrive_skip hx hdue]; exact h2
  · rw [late_next hx hl, List.length_append, List.length_singleton]
theorem Arr.give (h : Arr w0 wr b vp vt vl bm nm cm t s more aq nq cq k L) {x : Ev} (hx : s.q[k]? = some x) (hl : due t x = true) {p : Nat} {y : Int} (hs : arrM t (s.q.take (k + 1)) s.m = (arrM t (s.q.take k) s.m).set p y)
    (ho : OwnI w0.heap.size w' (.slice (some ⟨bm, 0, none⟩) nm cm) ((arrM t (s.q.take k) s.m).set p y)) (hk : Kept (fun k => k = bm) wr w') : Arr w0 w' b vp vt vl bm nm cm t s more aq nq cq (k + 1) L := by
  have hlate : late t x = false := by rw [late_not, hl]; rfl
  have hap := h.all.apart
  have hbm := (Row.lt (h.all.own (intRow (.slice (some ⟨bm, 0, none⟩) nm cm) (arrM t (s.q.take k) s.m)) (by simp)) (k := bm) rfl).1
  refine ⟨?_, h.below.trans (hk.below (fun j e => by subst e; exact hbm) h.below.size), (h.rest.skip hx).kept hk (fun g hg e => ?_), by rw [late_skip hx hlate]; exact h.len⟩
  · rw [late_skip hx hlate, hs]
    exact AllOwn.swap (pre := [boxRow b 100 (runCs vp vt vl (.slice (some ⟨bm, 0, none⟩) nm cm) (.slice aq nq cq) t), fiRow vl s.log]) (r := intRow (.slice (some ⟨bm, 0, none⟩) nm cm) (arrM t (s.q.take k) s.m)) (r' := intRow (.slice (some ⟨bm, 0, none⟩) nm cm) ((arrM t (s.q.take k) s.m).set p y)) (post := evRow (.slice aq L cq) ((s.q.take k).filter (late t)) :: more) h.all (hk.mono (fun j _ e => by subst e; rfl)) ho (.inl rfl)
  · subst hg
    have e1 : [boxRow b 100 (runCs vp vt vl (.slice (some ⟨bm, 0, none⟩) nm cm) (.slice (some ⟨g, 0, none⟩) nq cq) t), fiRow vl s.log, intRow (.slice (some ⟨bm, 0, none⟩) nm cm) (arrM t (s.q.take k) s.m)] ++ evRow (.slice (some ⟨g, 0, none⟩) L cq) ((s.q.take k).filter (late t)) :: more = [boxRow b 100 (runCs vp vt vl (.slice (some ⟨bm, 0, none⟩) nm cm) (.slice (some ⟨g, 0, none⟩) nq cq) t), fiRow vl s.log] ++ intRow (.slice (some ⟨bm, 0, none⟩) nm cm) (arrM t (s.q.take k) s.m) :: (evRow (.slice (some ⟨g, 0, none⟩) L cq) ((s.q.take k).filter (late t)) :: more) := rfl
    rw [e1, List.pairwise_append] at hap
    exact (List.pairwise_cons.1 hap.2.1).1 (evRow (.slice (some ⟨g, 0, none⟩) L cq) ((s.q.take k).filter (late t))) (by simp) bm rfl (by subst e; rfl)
/-- all are through: what is left is laid into the box -/
theorem Arr.done (h : Arr w0 wr b vp vt vl bm nm cm t s more aq nq cq k L) (hk : s.q.length ≤ k) : RunAt w0 (wr.setCell ⟨b, 4, none⟩ (.slice aq L cq)) b vp vt bm nm cm t (arrive t s) more := by
  have h1 := h.all
  rw [List.take_of_length_le hk] at h1
  have h2 := AllOwn.store (pre := []) (b := b) (t := 100) (cs := runCs vp vt vl (.slice (some ⟨bm, 0, none⟩) nm cm) (.slice aq nq cq) t) (post := fiRow vl s.log :: intRow (.slice (some ⟨bm, 0, none⟩) nm cm) (arrM t s.q s.m) :: evRow (.slice aq L cq) (s.q.filter (late t)) :: more) h1 4 (.slice aq L cq)
  exact ⟨vl, .slice aq L cq, h2.1, h.below.trans (h2.2.below (fun j e => by subst e; exact (boxRow.lt h.box).1) h.below.size)⟩
end

set_option maxRecDepth 100000 in
set_option maxHeartbeats 4000000 in
theorem arrive_any {n : Nt} {w0 w : World} {b bm nm cm : Nat} {vp vt : Value} {t : Int} {s : St} {more : List Row} (hI : Inv n t s) (hnm : nm = s.m.length) (h : RunAt w0 w b vp vt bm nm cm t s more) :
    Calls Try.prog 103 #[.pointer (some ⟨b, 0, none⟩)] w fun e w' => e = .returned (.bool true) ∧ RunAt w0 w' b vp vt bm nm cm t (arrive t s) more := by
  obtain ⟨vl, vq, hall, hbl⟩ := h
  have ho : OwnE w0.heap.size w vq s.q := hall.own (evRow vq s.q) (by simp)
  obtain ⟨aq, cq, rfl⟩ := own_form ho
  obtain ⟨hr0, ho0, _, hshape⟩ := Rest.start ho
  obtain ⟨qn, hnq⟩ : ∃ k, k = s.q.length := ⟨_, rfl⟩
  rw [← hnq] at hall hr0 hshape
  have hq := hI.ql
  have hll := hI.ll
  have hmax : qn ≤ 16000 := by omega
  have hA0 : Arr w0 w b vp vt vl bm nm cm t s more aq qn cq 0 0 := ⟨AllOwn.swap (pre := [boxRow b 100 (runCs vp vt vl (.slice (some ⟨bm, 0, none⟩) nm cm) (.slice aq qn cq) t), fiRow vl s.log, intRow (.slice (some ⟨bm, 0, none⟩) nm cm) s.m]) (r := evRow (.slice aq qn cq) s.q) (r' := evRow (.slice aq 0 cq) []) hall (Kept.refl _ _) ho0 (.inl (by cases aq <;> rfl)), hbl, hr0, rfl⟩
  have c4 : w.cell? ⟨b, 4, none⟩ = some (.slice aq qn cq) := boxRow.cell hA0.box rfl
  have lt0 := (boxRow.lt hA0.box).2
  have HA := Lib.hid hA0
  have HI := Lib.hid hI
  have Hnq := Lib.hid hnq
  have Hnm := Lib.hid hnm
  have Hshape := Lib.hid hshape
  clear hI hnm hall hbl ho hr0 ho0 hnq hq hll hA0 hshape
  go_enter Try.func103, Try.ntmps103
  go_wp2
  clear c4
  go_loopw [3, 4, 17] (fun z v i wr => ∃ k L : Nat, k ≤ qn ∧ i = .int .i64 k ∧ z = .bool true ∧ v = .slice aq L cq ∧ Arr w0 wr b vp vt vl bm nm cm t s more aq qn cq k L) (fun _ _ i _ => qn - (intOf i).toNat)
  case atStart => exact ⟨0, 0, by omega, rfl, rfl, (by rcases Hshape.out with ⟨rfl, rfl, rfl⟩ | ⟨g, rfl, _⟩ <;> rfl), HA.out⟩
  case round =>
    rename World => v1
    obtain ⟨k, L, hk, rfl, rfl, rfl, hA⟩ := hrel
    have lt1 := (boxRow.lt hA.box).2
    by_cases hlt : k < qn
    · obtain ⟨x, hx⟩ := at_lt (l := s.q) (k := k) (by rw [← Hnq.out]; exact hlt)
      have hlti : (k : Int) < (qn : Int) := by omega
      obtain ⟨g, rfl, hcq, hcm⟩ : ∃ g, aq = some ⟨g, 0, none⟩ ∧ qn ≤ cq ∧ cq ≤ maxLen := by
        rcases Hshape.out with ⟨_, h0, _⟩ | h0
        · omega
        · exact h0
      obtain ⟨lg, e0, e1, e2⟩ := hA.rest.at_ rfl hx
      have c5 : v1.cell? ⟨b, 5, none⟩ = some (.int .i64 t) := boxRow.cell hA.box rfl
      have c3 : v1.cell? ⟨b, 3, none⟩ = some (.slice (some ⟨bm, 0, none⟩) nm cm) := boxRow.cell hA.box rfl
      have Hx := Lib.hid hx
      have HA1 := Lib.hid hA
      clear hA hx hcq hcm
      obtain ⟨xt, xp, xn⟩ := x
      simp only at e0 e1 e2
      by_cases hd : t < xt
      · go_wp2
        go_quiet (fail)
        have HA2 := Lib.hid ((HA1.out.go ((Below.refl _ _).alloc (Nat.le_refl _) (.cells #[.int .i64 xt, .int .i64 xp, .int .i64 xn] 74))).go (drewNb _ nq))
        have hs2 : ((v1.alloc (.cells #[.int .i64 xt, .int .i64 xp, .int .i64 xn] 74)).drewN nq).heap.size = v1.heap.size + 1 := by simp
        obtain ⟨W, hr, hA3⟩ := HA2.out.put hlt rfl Hx.out (by unfold late; simpa using hd) 70
        rw [hs2] at hr
        have HA3 := Lib.hid hA3
        clear hA3 hs2
        go_wp2_with (at_builtin; refine wpList_append_eq rfl (.tmp 28) (.tmp 30) 70 rfl rfl rfl hr ?_)
        go_roundw
        case rel => exact ⟨k + 1, L + 1, by omega, by go_num, rfl, rfl, HA3.out⟩
        case measure => simp [intOf]; omega
      · have hdb : decide (t < xt) = false := decide_eq_false hd
        go_wp2
        go_quiet (fail)
        have hA2 := (HA1.out.go ((Below.refl _ _).alloc (Nat.le_refl _) (.cells #[.int .i64 xt, .int .i64 xp, .int .i64 xn] 74))).go (drewNb _ nq)
        obtain ⟨p, hp0, hpl, z, hz, hz0, hz1, hset, hn1⟩ := arrive_next HI.out Hx.out (by unfold due; simpa using hd)
        simp only at hp0 hz1 hset hn1
        subst hp0
        have HP := Lib.hid (fun (W : World) (hW : Below ((v1.alloc (.cells #[.int .i64 xt, .int .i64 (p : Int), .int .i64 xn] 74)).drewN nq).heap.size ((v1.alloc (.cells #[.int .i64 xt, .int .i64 (p : Int), .int .i64 xn] 74)).drewN nq) W) =>
          mput_any (hm := show nm = (arrM t (s.q.take k) s.m).length by rw [Hnm.out]; exact (foldE_len _ _).symm) ((hA2.go hW).all.own (intRow (.slice (some ⟨bm, 0, none⟩) nm cm) (arrM t (s.q.take k) s.m)) (by simp)) (n := xn) hz (by omega) (by omega) (by omega) true (by simpa using hz1))
        have HS := Lib.hid hset
        have HA2 := Lib.hid hA2
        clear hz hset hA2 hz0 hz1 hn1
        go_upto_region 8 with (fail)
        have hdue : due t ⟨xt, (p : Int), xn⟩ = true := by unfold due; simpa using hd
        have hdr : Below ((v1.alloc (.cells #[.int .i64 xt, .int .i64 (p : Int), .int .i64 xn] 74)).drewN nq).heap.size ((v1.alloc (.cells #[.int .i64 xt, .int .i64 (p : Int), .int .i64 xn] 74)).drewN nq) ((v1.alloc (.cells #[.int .i64 xt, .int .i64 (p : Int), .int .i64 xn] 74)).drewN nq).drew := (Below.refl _ _).drew
        have Hdr := Lib.hid hdr
        clear hdr e0 e1 e2 hd
        go_region_law (first | (go_simp; go_at_call 108; refine (HP.out _ Hdr.out).mono ?_; rintro e w5 ⟨rfl, ho5, hk5⟩; have HA5 := Lib.hid ((HA2.out.go Hdr.out).give Hx.out hdue HS.out ho5 hk5); clear ho5 hk5))
        all_goals
          go_wp2
          go_roundw
          case rel => exact ⟨k + 1, L, by omega, by go_num, rfl, rfl, HA5.out⟩
          case measure => simp [intOf]; omega
    · have hge : ¬ (k : Int) < (qn : Int) := by omega
      have c4 : v1.cell? ⟨b, 4, none⟩ = some (.slice aq qn cq) := boxRow.cell hA.box rfl
      have f4 := boxRow.froz hA.box 4
      have HD := Lib.hid (hA.done (by rw [← Hnq.out]; omega))
      clear hA
      go_wp2
      go_ret
      exact ⟨rfl, HD.out⟩
end Go.Proofs.Ytpbbdnicafifpaa

/-! ## RunD -/
namespace Go.Proofs.Ytpbbdnicafifpaa
open Go.RowKit
set_option linter.unusedVariables false

section
variable {w0 w w' w2 : World} {b bm nm cm : Nat} {vp vt : Value} {t : Int} {s : St} {more more' : List Row}
theorem RunAt.low (h : RunAt w0 w b vp vt bm nm cm t s more) : Below w0.heap.size w0 w := by
  obtain ⟨_, _, _, h2⟩ := h; exact h2
theorem RunAt.cells (h : RunAt w0 w b vp vt bm nm cm t s more) : w.cell? ⟨b, 0, none⟩ = some vp ∧ w.cell? ⟨b, 1, none⟩ = some vt ∧ w.cell? ⟨b, 3, none⟩ = some (.slice (some ⟨bm, 0, none⟩) nm cm) ∧ w.cell? ⟨b, 5, none⟩ = some (.int .i64 t) ∧ b < w.heap.size ∧ w0.heap.size ≤ b ∧ w0.heap.size ≤ bm ∧ bm < w.heap.size := by
  obtain ⟨vl, vq, h1, h2⟩ := h
  have hB := h1.own (boxRow b 100 (runCs vp vt vl (.slice (some ⟨bm, 0, none⟩) nm cm) vq t)) (by simp)
  have hM := Row.lt (h1.own (intRow (.slice (some ⟨bm, 0, none⟩) nm cm) s.m) (by simp)) (k := bm) rfl
  exact ⟨boxRow.cell hB rfl, boxRow.cell hB rfl, boxRow.cell hB rfl, boxRow.cell hB rfl, (boxRow.lt hB).2, (boxRow.lt hB).1, hM.1, hM.2⟩
theorem RunAt.log (h : RunAt w0 w b vp vt bm nm cm t s more) : ∃ a c, w.cell? ⟨b, 2, none⟩ = some (.slice a s.log.length c) ∧ OwnF w0.heap.size w (.slice a s.log.length c) s.log := by
  obtain ⟨vl, vq, h1, h2⟩ := h
  have hB := h1.own (boxRow b 100 (runCs vp vt vl (.slice (some ⟨bm, 0, none⟩) nm cm) vq t)) (by simp)
  have hF : OwnF w0.heap.size w vl s.log := h1.own (fiRow vl s.log) (by simp)
  obtain ⟨a, c, rfl⟩ := own_form hF
  exact ⟨a, c, boxRow.cell hB rfl, hF⟩
theorem RunAt.way (h : RunAt w0 w b vp vt bm nm cm t s more) : ∃ a c, w.cell? ⟨b, 4, none⟩ = some (.slice a s.q.length c) ∧ OwnE w0.heap.size w (.slice a s.q.length c) s.q := by
  obtain ⟨vl, vq, h1, h2⟩ := h
  have hB := h1.own (boxRow b 100 (runCs vp vt vl (.slice (some ⟨bm, 0, none⟩) nm cm) vq t)) (by simp)
  have hF : OwnE w0.heap.size w vq s.q := h1.own (evRow vq s.q) (by simp)
  obtain ⟨a, c, rfl⟩ := own_form hF
  exact ⟨a, c, boxRow.cell hB rfl, hF⟩
theorem RunAt.ints (h : RunAt w0 w b vp vt bm nm cm t s more) : OwnI w0.heap.size w (.slice (some ⟨bm, 0, none⟩) nm cm) s.m := by
  obtain ⟨vl, vq, h1, h2⟩ := h
  exact h1.own (intRow (.slice (some ⟨bm, 0, none⟩) nm cm) s.m) (by simp)
theorem RunAt.mem (h : RunAt w0 w b vp vt bm nm cm t s more) {r : Row} (hr : r ∈ more) : r.own w0.heap.size w := by
  obtain ⟨vl, vq, h1, h2⟩ := h
  exact h1.own r (by simp [hr])
theorem RunAt.sub (h : RunAt w0 w b vp vt bm nm cm t s more) (hs : more'.Sublist more) : RunAt w0 w b vp vt bm nm cm t s more' := by
  obtain ⟨vl, vq, h1, h2⟩ := h
  exact ⟨vl, vq, h1.sub ((((hs.cons_cons _).cons_cons _).cons_cons _).cons_cons _), h2⟩
/-- one more row beside, all new -/
theorem RunAt.add (h : RunAt w0 w b vp vt bm nm cm t s more) (hb : Below w.heap.size w w') {r : Row} (hr : r.own w0.heap.size w') (hf : ∀ k, r.v.ownBlock = some k → w.heap.size ≤ k) : RunAt w0 w' b vp vt bm nm cm t s (more ++ [r]) := by
  obtain ⟨vl, vq, h1, h2⟩ := h
  exact ⟨vl, vq, by simpa using h1.add hb hr hf, h2.trans (hb.mono h2.size)⟩
theorem RunAt.box (h : RunAt w0 w b vp vt bm nm cm t s more) (cs : Array Value) (ty : TypeId) : RunAt w0 (w.alloc (.cells cs ty)) b vp vt bm nm cm t s (more ++ [boxRow w.heap.size ty cs.toList]) :=
  h.add ((Below.refl _ _).alloc (Nat.le_refl _) _) (boxRow.new _ w ty cs h.low.size) (fun k e => by injection e with e; subst e; exact Nat.le_refl _)
/-- the last of the rows beside is turned, and nothing else -/
theorem RunAt.turn {r : Row} (h : RunAt w0 w b vp vt bm nm cm t s (more ++ [r])) {r' : Row} (hk : Kept (fun k => r.v.ownBlock = some k) w w') (hr : r'.own w0.heap.size w') (hv : r'.v.ownBlock = r.v.ownBlock) : RunAt w0 w' b vp vt bm nm cm t s (more ++ [r']) := by
  obtain ⟨vl, vq, h1, h2⟩ := h
  have hlo : ∀ k, r.v.ownBlock = some k → w0.heap.size ≤ k := fun k e => (Row.lt (h1.own r (by simp)) e).1
  refine ⟨vl, vq, ?_, h2.trans (hk.below hlo h2.size)⟩
  have := AllOwn.swap (pre := boxRow b 100 (runCs vp vt vl (.slice (some ⟨bm, 0, none⟩) nm cm) vq t) :: fiRow vl s.log :: intRow (.slice (some ⟨bm, 0, none⟩) nm cm) s.m :: evRow vq s.q :: more) (r := r) (post := []) (by simpa using h1) hk hr (.inl hv)
  simpa using this
/-- the tokens are turned, and nothing else -/
theorem RunAt.take {m' : List Int} (h : RunAt w0 w b vp vt bm nm cm t s more) (ho : OwnI w0.heap.size w' (.slice (some ⟨bm, 0, none⟩) nm cm) m') (hk : Kept (fun k => k = bm) w w') : RunAt w0 w' b vp vt bm nm cm t ⟨s.log, m', s.q⟩ more := by
  have hbm := h.cells.2.2.2.2.2.2.1
  obtain ⟨vl, vq, h1, h2⟩ := h
  exact ⟨vl, vq, AllOwn.swap (pre := [boxRow b 100 (runCs vp vt vl (.slice (some ⟨bm, 0, none⟩) nm cm) vq t), fiRow vl s.log]) (r := intRow (.slice (some ⟨bm, 0, none⟩) nm cm) s.m) (r' := intRow (.slice (some ⟨bm, 0, none⟩) nm cm) m') (post := evRow vq s.q :: more) h1 (hk.mono (fun j _ e => by subst e; rfl)) ho (.inl rfl), h2.trans (hk.below (fun j e => by subst e; exact hbm) h2.size)⟩
/-- the time is set -/
theorem RunAt.time (h : RunAt w0 w b vp vt bm nm cm t s more) (t' : Int) : RunAt w0 (w.setCell ⟨b, 5, none⟩ (.int .i64 t')) b vp vt bm nm cm t' s more ∧ w.frozen? ⟨b, 5, none⟩ = false := by
  have hb := h.cells.2.2.2.2.2.1
  obtain ⟨vl, vq, h1, h2⟩ := h
  have h3 := AllOwn.store (pre := []) (b := b) (t := 100) (cs := runCs vp vt vl (.slice (some ⟨bm, 0, none⟩) nm cm) vq t) h1 5 (.int .i64 t')
  exact ⟨⟨vl, vq, h3.1, h2.trans (h3.2.below (fun j e => by subst e; exact hb) h2.size)⟩, boxRow.froz (h1.own (boxRow b 100 (runCs vp vt vl (.slice (some ⟨bm, 0, none⟩) nm cm) vq t)) (by simp)) 5⟩
/-- one more firing -/
theorem RunAt.pushF (h : RunAt w0 w b vp vt bm nm cm t s more) (hl : s.log.length ≤ 1000000) (ty : TypeId) (x y : Int) {a : Option Addr} {c : Nat} (hc : w.cell? ⟨b, 2, none⟩ = some (.slice a s.log.length c)) :
    ∃ a' n' c' w', (Builtin.append_ #[49, 49] ty #[.slice a s.log.length c, .slice (some ⟨w.heap.size, 0, none⟩) 1 1]).run Try.prog (w.alloc (.cells #[.int .i64 x, .int .i64 y] 55)) = .ok (.slice a' n' c') w' ∧
      RunAt w0 (w'.setCell ⟨b, 2, none⟩ (.slice a' n' c')) b vp vt bm nm cm t ⟨s.log ++ [(x, y)], s.m, s.q⟩ more ∧ w'.cell? ⟨b, 2, none⟩ = some (.slice a s.log.length c) ∧ w'.frozen? ⟨b, 2, none⟩ = false ∧ b < w'.heap.size := by
  have hb := h.cells.2.2.2.2.2.1
  obtain ⟨vl, vq, h1, h2⟩ := h
  have hB := h1.own (boxRow b 100 (runCs vp vt vl (.slice (some ⟨bm, 0, none⟩) nm cm) vq t)) (by simp)
  have hF : OwnF w0.heap.size w vl s.log := h1.own (fiRow vl s.log) (by simp)
  have e : w.cell? ⟨b, 2, none⟩ = some vl := boxRow.cell hB rfl
  rw [e] at hc
  injection hc with hc
  subst hc
  obtain ⟨v', w', hr, ho, hk, hv⟩ := run_push_fi ty x y hF hl h2.size
  obtain ⟨a', n', c', rfl⟩ := own_form3 ho
  have h3 := AllOwn.swap (pre := [boxRow b 100 (runCs vp vt (.slice a s.log.length c) (.slice (some ⟨bm, 0, none⟩) nm cm) vq t)]) (r := fiRow (.slice a s.log.length c) s.log) (r' := fiRow (.slice a' n' c') (s.log ++ [(x, y)])) h1 hk ho (by
    rcases hv with e | e
    · exact .inl e
    · exact .inr ⟨_, e, by omega⟩)
  have hlo : ∀ k, (Value.slice a s.log.length c).ownBlock = some k → w0.heap.size ≤ k := fun k e => (Row.lt (r := fiRow (.slice a s.log.length c) s.log) hF e).1
  have hB3 := h3.own (boxRow b 100 (runCs vp vt (.slice a s.log.length c) (.slice (some ⟨bm, 0, none⟩) nm cm) vq t)) (by simp)
  have h4 := AllOwn.store (pre := []) (b := b) (t := 100) (cs := runCs vp vt (.slice a s.log.length c) (.slice (some ⟨bm, 0, none⟩) nm cm) vq t) h3 2 (.slice a' n' c')
  have h5 := h2.trans (hk.below hlo h2.size)
  exact ⟨a', n', c', w', hr, ⟨_, vq, h4.1, h5.trans (h4.2.below (fun j e => by subst e; exact hb) h5.size)⟩, boxRow.cell hB3 rfl, boxRow.froz hB3 2, (boxRow.lt hB3).2⟩
/-- one more event -/
theorem RunAt.pushE (h : RunAt w0 w b vp vt bm nm cm t s more) (hl : s.q.length ≤ 1000000) (ty : TypeId) (x : Ev) {a : Option Addr} {c : Nat} (hc : w.cell? ⟨b, 4, none⟩ = some (.slice a s.q.length c)) :
    ∃ a' n' c' w', (Builtin.append_ #[70, 70] ty #[.slice a s.q.length c, .slice (some ⟨w.heap.size, 0, none⟩) 1 1]).run Try.prog (w.alloc (.cells #[.int .i64 x.time, .int .i64 x.place, .int .i64 x.n] 74)) = .ok (.slice a' n' c') w' ∧
      RunAt w0 (w'.setCell ⟨b, 4, none⟩ (.slice a' n' c')) b vp vt bm nm cm t ⟨s.log, s.m, s.q ++ [x]⟩ more ∧ w'.cell? ⟨b, 4, none⟩ = some (.slice a s.q.length c) ∧ w'.frozen? ⟨b, 4, none⟩ = false ∧ b < w'.heap.size := by
  have hb := h.cells.2.2.2.2.2.1
  obtain ⟨vl, vq, h1, h2⟩ := h
  have hB := h1.own (boxRow b 100 (runCs vp vt vl (.slice (some ⟨bm, 0, none⟩) nm cm) vq t)) (by simp)
  have hF : OwnE w0.heap.size w vq s.q := h1.own (evRow vq s.q) (by simp)
  have e : w.cell? ⟨b, 4, none⟩ = some vq := boxRow.cell hB rfl
  rw [e] at hc
  injection hc with hc
  subst hc
  obtain ⟨v', w', hr, ho, hk, hv⟩ := run_push_ev ty x hF hl h2.size
  obtain ⟨a', n', c', rfl⟩ := own_form3 ho
  have h3 := AllOwn.swap (pre := [boxRow b 100 (runCs vp vt vl (.slice (some ⟨bm, 0, none⟩) nm cm) (.slice a s.q.length c) t), fiRow vl s.log, intRow (.slice (some ⟨bm, 0, none⟩) nm cm) s.m]) (r := evRow (.slice a s.q.length c) s.q) (r' := evRow (.slice a' n' c') (s.q ++ [x])) h1 hk ho (by
    rcases hv with e | e
    · exact .inl e
    · exact .inr ⟨_, e, by omega⟩)
  have hlo : ∀ k, (Value.slice a s.q.length c).ownBlock = some k → w0.heap.size ≤ k := fun k e => (Row.lt (r := evRow (.slice a s.q.length c) s.q) hF e).1
  have hB3 := h3.own (boxRow b 100 (runCs vp vt vl (.slice (some ⟨bm, 0, none⟩) nm cm) (.slice a s.q.length c) t)) (by simp)
  have h4 := AllOwn.store (pre := []) (b := b) (t := 100) (cs := runCs vp vt vl (.slice (some ⟨bm, 0, none⟩) nm cm) (.slice a s.q.length c) t) h3 4 (.slice a' n' c')
  have h5 := h2.trans (hk.below hlo h2.size)
  exact ⟨a', n', c', w', hr, ⟨vl, _, h4.1, h5.trans (h4.2.below (fun j e => by subst e; exact hb) h5.size)⟩, boxRow.cell hB3 rfl, boxRow.froz hB3 4, (boxRow.lt hB3).2⟩
end

/-- which error there is, ahead of a firing -/
def refuseN (s : St) (f : Int) : Int := if 20 ≤ f then 4 else if 2000 ≤ s.log.length then 5 else 0

set_option maxRecDepth 100000 in
set_option maxHeartbeats 4000000 in
theorem refuse_any {n : Nt} {w0 w : World} {b bm nm cm np nt cp ct i : Nat} {ap at_ : Option Addr} {t f q : Int} {s : St} {more : List Row} {x : Tr} (hnt : nt = n.trans.length) (hnet : NetAt w0 (.slice ap np cp) (.slice at_ nt ct) n) (hx : n.trans[i]? = some x) (hd : 0 ≤ x.delay ∧ x.delay ≤ 1000000) (ht : 0 ≤ t ∧ t ≤ 2000000000) (h : RunAt w0 w b (.slice ap np cp) (.slice at_ nt ct) bm nm cm t s more) (hq : q = refuseN s f) :
    Calls Try.prog 105 #[.pointer (some ⟨b, 0, none⟩), .int .i64 i, .int .i64 f] w fun e w' => e = .returned (.int .i64 q) ∧ Below w.heap.size w w' := by
  obtain ⟨_, l, hl, htr⟩ := hnet.below h.low
  obtain ⟨g, off, a1, c1, a2, c2, a3, c3, rfl, hgw, e0, e1, e2, e3, e4, e5, _, _, _⟩ := htr.at_ (i := i) (t := x) (by rw [hl]; exact hx)
  obtain ⟨k0, k1, k3, k5, kb, _⟩ := h.cells
  obtain ⟨al, cl, k2, hF⟩ := h.log
  have hlt : i < nt := by rw [hnt]; exact lt_at hx
  have hlti : (i : Int) < (nt : Int) := by omega
  have hlmax : s.log.length ≤ 9223372036854775807 := by
    have := RowAt.max (RowAt.of_own hF); omega
  obtain ⟨ll, hll⟩ : ∃ k, k = s.log.length := ⟨_, rfl⟩
  unfold refuseN at hq
  rw [← hll] at k2 hq hlmax
  have hw : IntKind.i64.wrap (t + x.delay) = t + x.delay := IntWalk.i64_in _ (by omega)
  have htm : ¬ (1099511627776 : Int) < t + x.delay := by omega
  have htmb : decide ((1099511627776 : Int) < t + x.delay) = false := decide_eq_false htm
  have hlo : -9223372036854775808 ≤ t + x.delay := by omega
  have hhi : t + x.delay ≤ 9223372036854775807 := by omega
  obtain ⟨dl, hdl⟩ : ∃ k, k = x.delay := ⟨_, rfl⟩
  obtain ⟨pr, hpr⟩ : ∃ k, k = x.prio := ⟨_, rfl⟩
  obtain ⟨sx, hsx⟩ : ∃ k, k = x.name := ⟨_, rfl⟩
  obtain ⟨n1, hn1⟩ : ∃ k, k = x.inn.length := ⟨_, rfl⟩
  obtain ⟨n2, hn2⟩ : ∃ k, k = x.nt.length := ⟨_, rfl⟩
  obtain ⟨n3, hn3⟩ : ∃ k, k = x.out.length := ⟨_, rfl⟩
  rw [← hdl] at e1 hw htm htmb hlo hhi
  rw [← hpr] at e2
  rw [← hsx] at e0
  rw [← hn1] at e3
  rw [← hn2] at e4
  rw [← hn3] at e5
  have Hb := Lib.hid ((Below.refl w.heap.size w).alloc (Nat.le_refl _) (.cells #[.string sx, .int .i64 dl, .int .i64 pr, .slice a1 n1 c1, .slice a2 n2 c2, .slice a3 n3 c3] 79))
  clear hnet h hl htr hF hx hnt hll hdl hpr hsx hn1 hn2 hn3 hd ht
  by_cases g1 : 20 ≤ f
  · obtain rfl : q = 4 := by rw [hq, if_pos g1]
    clear hq
    go_enter Try.func105, Try.ntmps105
    go_wp2
    go_ret
    exact ⟨rfl, Hb.out⟩
  rw [if_neg g1] at hq
  have g1b : decide ((20 : Int) ≤ f) = false := decide_eq_false g1
  by_cases g2 : 2000 ≤ ll
  · obtain rfl : q = 5 := by rw [hq, if_pos g2]
    have g2i : (2000 : Int) ≤ (ll : Int) := by omega
    clear hq
    go_enter Try.func105, Try.ntmps105
    go_wp2
    go_ret
    exact ⟨rfl, Hb.out⟩
  obtain rfl : q = 0 := by rw [hq, if_neg g2]
  have g2i : ¬ (2000 : Int) ≤ (ll : Int) := by omega
  have g2b : decide ((2000 : Int) ≤ (ll : Int)) = false := decide_eq_false g2i
  clear hq
  by_cases g3 : 0 < n3
  · have g3i : (0 : Int) < (n3 : Int) := by omega
    go_enter Try.func105, Try.ntmps105
    go_wp2
    go_quiet (fail)
    go_wp2
    go_ret
    exact ⟨rfl, Hb.out.trans ((drewNb _ _).mono Hb.out.size)⟩
  · have g3i : ¬ (0 : Int) < (n3 : Int) := by omega
    have g3b : decide ((0 : Int) < (n3 : Int)) = false := decide_eq_false g3i
    go_enter Try.func105, Try.ntmps105
    go_wp2
    go_quiet (fail)
    go_wp2
    go_ret
    exact ⟨rfl, Hb.out.trans ((drewNb _ _).mono Hb.out.size)⟩
end Go.Proofs.Ytpbbdnicafifpaa
