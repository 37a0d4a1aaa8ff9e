/-
  A row of keys in memory, four cells a key; what a call leaves alone. What rise of tray's Heap comes to: a row that is a heap but for one key that may be too small for its place becomes a heap of the same keys; nothing else that was there changes. The two children of a place in a heap, as an array. What sink of tray's Heap comes to: a row that is a heap but for one key that may be too great for its place becomes a heap of the same keys; nothing else that was there changes. A heap of keys whose slice lies in a cell of any box: what Push, Len, Top and Pop of tray's Heap come to there. A heap of keys whose slice lies in a cell of any box: what Pop of tray's Heap comes to there: the least key goes, the others stay.
  Conditions: none beyond each theorem's own.
-/
import Derived.Test.YtpbbdnicafifpaaHeapMath
import Derived.Test.YtpbbdnicafifpaaBase4
import Derived.Test.YtpbbdnicafifpaaNetW
import Derived.Laws.OwnMore
import Derived.Deep.RegionHeld3
import Derived.BigRegion
import Derived.Deep.AppendLies
import Derived.Deep.RegionLaw
import Derived.OwnWalk
/-! ## HpMem -/
namespace Go.Proofs.Ytpbbdnicafifpaa
open Go.RowKit

/-- a key's four cells -/
def kc (k : Key4) : List Value := [.int .i64 k.1, .int .i64 k.2.1, .int .i64 k.2.2.1, .int .i64 k.2.2.2]

/-- the cells of a list of keys -/
def kcells (ks : List Key4) : List Value := ks.flatMap kc

theorem kcells_len (ks : List Key4) : (kcells ks).length = ks.length * 4 := by
  induction ks with
  | nil => rfl
  | cons k l ih => simp only [kcells, List.flatMap_cons, List.length_append, List.length_cons] at *; rw [ih]; simp [kc]; omega

theorem kcells_snoc (ks : List Key4) (x : Key4) : kcells (ks ++ [x]) = kcells ks ++ kc x := by simp [kcells]

theorem kcells_at (ks : List Key4) : ∀ (i j : Nat), i < ks.length → j < 4 → (kcells ks)[i * 4 + j]? = (kc (at4 ks i))[j]? := by
  induction ks with
  | nil => intro i j h; simp at h
  | cons k l ih =>
    intro i j hi hj
    have e : kcells (k :: l) = kc k ++ kcells l := by simp [kcells]
    rw [e]
    cases i with
    | zero => rw [List.getElem?_append_left (by simp [kc]; omega)]; simp [at4]
    | succ i =>
      rw [List.getElem?_append_right (by simp [kc]; omega)]
      have h4 : (kc k).length = 4 := rfl
      rw [h4, show (i + 1) * 4 + j - 4 = i * 4 + j by omega, ih i j (by simpa using hi) hj]
      simp [at4]

theorem kcells_set (ks : List Key4) : ∀ (i : Nat) (x : Key4), i < ks.length →
    ((((kcells ks).set (i * 4) (.int .i64 x.1)).set (i * 4 + 1) (.int .i64 x.2.1)).set (i * 4 + 2) (.int .i64 x.2.2.1)).set (i * 4 + 3) (.int .i64 x.2.2.2) = kcells (ks.set i x) := by
  induction ks with
  | nil => intro i x h; simp at h
  | cons k l ih =>
    intro i x hi
    have e : ∀ k : Key4, ∀ l : List Key4, kcells (k :: l) = .int .i64 k.1 :: .int .i64 k.2.1 :: .int .i64 k.2.2.1 :: .int .i64 k.2.2.2 :: kcells l := by intro k l; simp [kcells, kc]
    cases i with
    | zero => simp [e]
    | succ i =>
      rw [e, List.set_cons_succ, e, ← ih i x (by simpa using hi)]
      rw [show (i + 1) * 4 = i * 4 + 1 + 1 + 1 + 1 by omega]
      simp [show i * 4 + 1 + 1 + 1 + 1 + 1 = i * 4 + 1 + 1 + 1 + 1 + 1 from rfl]

/-- block r is a row of keys, of which the first are ks -/
structure KeyRow (w : World) (r cap : Nat) (ks : List Key4) : Prop where
  blk : ∃ cur : Array Value, w.heap[r]? = some (.cells cur 112 (0, 0)) ∧ cur.size = cap * 4 ∧ cur.toList.take (ks.length * 4) = kcells ks
  le : ks.length ≤ cap
  mx : cap ≤ maxLen

section
variable {S : Nat → Prop} {w w' w'' : World}
variable {r cap : Nat} {ks : List Key4}

theorem KeyRow.lt (h : KeyRow w r cap ks) : r < w.heap.size := by
  obtain ⟨cur, hb, _⟩ := h.blk
  exact (Array.getElem?_eq_some_iff.1 hb).1

theorem KeyRow.cells (h : KeyRow w r cap ks) (i j : Nat) (hi : i < ks.length) (hj : j < 4) : w.cell? ⟨r, i * 4 + j, none⟩ = (kc (at4 ks i))[j]? := by
  obtain ⟨cur, hb, hs, ht⟩ := h.blk
  rw [cell_of_row w r _ cur _ (0, 0) hb, ← kcells_at ks i j hi hj, ← ht, List.getElem?_take, if_pos (by omega)]
  simp

theorem KeyRow.frozen (h : KeyRow w r cap ks) (o : Nat) : w.frozen? ⟨r, o, none⟩ = false := by
  obtain ⟨cur, hb, _⟩ := h.blk
  simp [World.frozen?, hb]

theorem KeyRow.same (h : KeyRow w r cap ks) (hb : w'.heap[r]? = w.heap[r]?) : KeyRow w' r cap ks := by
  obtain ⟨cur, hb', hs, ht⟩ := h.blk
  exact ⟨⟨cur, hb.trans hb', hs, ht⟩, h.le, h.mx⟩

theorem KeyRow.drew (h : KeyRow w r cap ks) : KeyRow w.drew r cap ks := h.same rfl
theorem KeyRow.below (h : KeyRow w r cap ks) (hb : Below w.heap.size w w') : KeyRow w' r cap ks := h.same (hb.block r h.lt)
theorem KeyRow.kept (h : KeyRow w r cap ks) (hk : Kept S w w') (hs : ¬ S r) : KeyRow w' r cap ks := h.same (hk.block r h.lt hs)

/-- a key stored at place i -/
def put4 (w : World) (r i : Nat) (x : Key4) : World :=
  (((w.setCell ⟨r, i * 4, none⟩ (.int .i64 x.1)).setCell ⟨r, i * 4 + 1, none⟩ (.int .i64 x.2.1)).setCell ⟨r, i * 4 + 2, none⟩ (.int .i64 x.2.2.1)).setCell ⟨r, i * 4 + 3, none⟩ (.int .i64 x.2.2.2)

theorem KeyRow.put (h : KeyRow w r cap ks) (i : Nat) (x : Key4) (hi : i < ks.length) : KeyRow (put4 w r i x) r cap (ks.set i x) := by
  obtain ⟨cur, hb, hs, ht⟩ := h.blk
  refine ⟨⟨_, Joins.block_setCell (Joins.block_setCell (Joins.block_setCell (Joins.block_setCell hb _) _) _) _, by simpa using hs, ?_⟩, by simpa using h.le, h.mx⟩
  simp only [Array.toList_setIfInBounds, List.length_set]
  rw [← kcells_set ks i x hi, ← ht]
  simp only [List.take_set]

theorem Kept.put (h : Kept S w w') (hr : S r) (i : Nat) (x : Key4) : Kept S w (put4 w' r i x) :=
  (((h.setCell hr _).setCell hr _).setCell hr _).setCell hr _

theorem KeyRow.cell4 (h : KeyRow w r cap ks) (i : Nat) (hi : i < ks.length) (x : Key4) (hx : at4 ks i = x) :
    w.cell? ⟨r, i * 4, none⟩ = some (.int .i64 x.1) ∧ w.cell? ⟨r, i * 4 + 1, none⟩ = some (.int .i64 x.2.1) ∧ w.cell? ⟨r, i * 4 + 2, none⟩ = some (.int .i64 x.2.2.1) ∧ w.cell? ⟨r, i * 4 + 3, none⟩ = some (.int .i64 x.2.2.2) := by
  subst hx
  exact ⟨h.cells i 0 hi (by omega), h.cells i 1 hi (by omega), h.cells i 2 hi (by omega), h.cells i 3 hi (by omega)⟩

end

end Go.Proofs.Ytpbbdnicafifpaa

/-! ## HpRise -/
namespace Go.Proofs.Ytpbbdnicafifpaa
open Go.RowKit

theorem cellB {w w' : World} (h : Below w.heap.size w w') {b o : Nat} {v : Value} (hb : b < w.heap.size) (hc : w.cell? ⟨b, o, none⟩ = some v) : w'.cell? ⟨b, o, none⟩ = some v :=
  (h.cell (p := ⟨b, o, none⟩) hb).trans hc
theorem frozB {w w' : World} (h : Below w.heap.size w w') {b o : Nat} (hb : b < w.heap.size) (hc : w.frozen? ⟨b, o, none⟩ = false) : w'.frozen? ⟨b, o, none⟩ = false :=
  (h.frozen (p := ⟨b, o, none⟩) hb).trans hc

theorem undrew {w w' : World} (h : Below w.drew.heap.size w.drew w') : Below w.heap.size w w' := ⟨h.os, h.tape, h.output, h.size, h.block⟩

/-- what rise and sink leave -/
def Settled (r cap : Nat) (ks : List Key4) (w : World) (e : Ending) (w' : World) : Prop :=
  e = .returned (.tuple #[]) ∧ (∃ ks', ks'.Perm ks ∧ IsHeap ks' ∧ KeyRow w' r cap ks') ∧ Kept (fun k => k = r) w w'

theorem swap_world (w : World) (r i j : Nat) (ks : List Key4) (cap : Nat) (h : KeyRow w r cap ks) (hi : i < ks.length) (hj : j < ks.length) :
    KeyRow (put4 (put4 w r i (at4 ks j)) r j (at4 ks i)) r cap (swap4 ks i j) := by
  have h1 := h.put i (at4 ks j) hi
  exact h1.put j (at4 ks i) (by simpa using hj)

set_option maxHeartbeats 2000000 in
theorem rise_any (g o r cap i : Nat) (ks : List Key4) (w : World) (hrow : KeyRow w r cap ks) (hg : w.cell? ⟨g, o, none⟩ = some (.slice (some ⟨r, 0, none⟩) ks.length cap)) (hgl : g < w.heap.size) (hgr : g ≠ r)
    (hi : i < ks.length) (hup : UpAt ks i) (hn : ks.length ≤ 1000000) :
    Calls Try.prog 91 #[.pointer (some ⟨g, o, none⟩), .int .i64 i] w (Settled r cap ks w) := by
  have Hrow := Lib.hid hrow
  have Hg := Lib.hid hg
  have Hup := Lib.hid hup
  clear hrow hg hup
  obtain ⟨n, hnn⟩ : ∃ n, n = ks.length := ⟨_, rfl⟩
  rw [← hnn] at hi hn Hg
  have Hn := Lib.hid hnn
  clear hnn
  go_enter Try.func91, Try.ntmps91
  go_wp2
  go_loopw [1] (fun t wr => ∃ j : Nat, ∃ k1 : List Key4, t = .int .i64 j ∧ j < n ∧ Hid (n = k1.length) ∧ k1.Perm ks ∧ UpAt k1 j ∧ KeyRow wr r cap k1 ∧ Kept (fun k => k = r) w wr) (fun t _ => (intOf t).toNat)
  case atStart => exact ⟨i, ks, rfl, hi, Hn, List.Perm.refl _, Hup.out, Hrow.out, Kept.refl _ _⟩
  case round =>
    obtain ⟨j, k1, rfl, hj, hn1, hp1, hu1, hr1, hk1⟩ := hrel
    have Hp1 := Lib.hid hp1
    have Hu1 := Lib.hid hu1
    have Hr1 := Lib.hid hr1
    have Hk1 := Lib.hid hk1
    clear hp1 hu1 hr1 hk1
    by_cases hj0 : 0 < j
    · obtain ⟨p, hp⟩ : ∃ p, p = (j - 1) / 2 := ⟨_, rfl⟩
      have hpj : p < j := by omega
      have hpi : ((j : Int) - 1) / 2 = (p : Int) := by omega
      have hjl : j < k1.length := by rw [← hn1.out]; exact hj
      have hpl : p < k1.length := by omega
      obtain ⟨x, hx⟩ : ∃ x, at4 k1 j = x := ⟨_, rfl⟩
      obtain ⟨y, hy⟩ : ∃ y, at4 k1 p = y := ⟨_, rfl⟩
      obtain ⟨c1, c2, c3, c4⟩ := Hr1.out.cell4 j hjl x hx
      obtain ⟨d1, d2, d3, d4⟩ := Hr1.out.cell4 p hpl y hy
      have cg := Hk1.out.cell hgl hgr Hg.out
      have hgl1 : g < wr.heap.size := Nat.lt_of_lt_of_le hgl Hk1.out.size
      have hrl1 : r < wr.heap.size := Hr1.out.lt
      have Hx := Lib.hid hx
      have Hy := Lib.hid hy
      have Hp := Lib.hid hp
      clear hx hy hp hjl hpl
      obtain ⟨x1, x2, x3, x4⟩ := x
      obtain ⟨y1, y2, y3, y4⟩ := y
      simp only at c1 c2 c3 c4 d1 d2 d3 d4
      have hjp : j ≠ p := by omega
      have i1 : (0 : Int) ≤ (p : Int) := by omega
      have i2 : (p : Int) < (n : Int) := by omega
      have i3 : (0 : Int) ≤ (j : Int) := by omega
      have i4 : (j : Int) < (n : Int) := by omega
      cases hlt : klt (x1, x2, x3, x4) (y1, y2, y3, y4) with
      | true =>
        have Hlt := Lib.hid hlt
        go_wp2
        go_region_held3 (fun w' => w'.cell? ⟨g, o, none⟩ = some (.slice (some ⟨r, 0, none⟩) n cap) ∧ w'.cell? ⟨r, j * 4, none⟩ = some (.int .i64 x1) ∧ w'.cell? ⟨r, j * 4 + 1, none⟩ = some (.int .i64 x2) ∧ w'.cell? ⟨r, j * 4 + 2, none⟩ = some (.int .i64 x3) ∧ w'.cell? ⟨r, j * 4 + 3, none⟩ = some (.int .i64 x4)
           ∧ w'.cell? ⟨r, p * 4, none⟩ = some (.int .i64 y1) ∧ w'.cell? ⟨r, p * 4 + 1, none⟩ = some (.int .i64 y2) ∧ w'.cell? ⟨r, p * 4 + 2, none⟩ = some (.int .i64 y3) ∧ w'.cell? ⟨r, p * 4 + 3, none⟩ = some (.int .i64 y4))
          (first | exact kk | go_keep)
          (first | (go_at_call 110; ((with_reducible refine (less_any _ _ _ _ _ _ _ _ _).mono ?_); rintro e w' ⟨rfl, hbw⟩; have kk := And.intro (cellB hbw hgl1 cg) (And.intro (cellB hbw hrl1 c1) (And.intro (cellB hbw hrl1 c2) (And.intro (cellB hbw hrl1 c3) (And.intro (cellB hbw hrl1 c4) (And.intro (cellB hbw hrl1 d1) (And.intro (cellB hbw hrl1 d2) (And.intro (cellB hbw hrl1 d3) (cellB hbw hrl1 d4)))))))))))
        obtain ⟨kg, k1', k2', k3', k4', l1, l2, l3, l4⟩ := kk
        have hr2 : KeyRow w' r cap k1 := Hr1.out.below (undrew hbw)
        have Hr2 := Lib.hid hr2
        have Hk2 : Hid (Kept (fun k => k = r) w w') := Lib.hid (Hk1.out.trans (Kept.of_below (undrew hbw)))
        have f1 := hr2.frozen (j * 4)
        have f2 := hr2.frozen (j * 4 + 1)
        have f3 := hr2.frozen (j * 4 + 2)
        have f4 := hr2.frozen (j * 4 + 3)
        have f5 := hr2.frozen (p * 4)
        have f6 := hr2.frozen (p * 4 + 1)
        have f7 := hr2.frozen (p * 4 + 2)
        have f8 := hr2.frozen (p * 4 + 3)
        clear hbw cg c1 c2 c3 c4 d1 d2 d3 d4 hr2
        go_wp2
        go_region
        go_wp2
        go_roundw
        case rel =>
          have hjl : j < k1.length := by rw [← hn1.out]; exact hj
          have hpl : p < k1.length := by omega
          have hs := (swap_world w' r j p k1 cap Hr2.out hjl hpl).drew
          rw [Hx.out, Hy.out] at hs
          have hk := ((Hk2.out.put (r := r) rfl j (y1, y2, y3, y4)).put (r := r) rfl p (x1, x2, x3, x4)).drew
          have hu := Hu1.out.step hjl hj0 (by rw [← Hp.out, Hx.out, Hy.out]; exact Hlt.out)
          rw [← Hp.out] at hu
          exact ⟨p, swap4 k1 j p, rfl, by omega, Lib.hid (by rw [swap4_len]; exact hn1.out), (swap4_perm k1 j p hjl hpl).trans Hp1.out, hu, hs, hk⟩
        case measure => simp [intOf]; omega
      | false =>
        have Hlt := Lib.hid hlt
        go_wp2
        go_region_held3 (fun w' => w'.cell? ⟨g, o, none⟩ = some (.slice (some ⟨r, 0, none⟩) n cap) ∧ w'.cell? ⟨r, j * 4, none⟩ = some (.int .i64 x1) ∧ w'.cell? ⟨r, j * 4 + 1, none⟩ = some (.int .i64 x2) ∧ w'.cell? ⟨r, j * 4 + 2, none⟩ = some (.int .i64 x3) ∧ w'.cell? ⟨r, j * 4 + 3, none⟩ = some (.int .i64 x4)
           ∧ w'.cell? ⟨r, p * 4, none⟩ = some (.int .i64 y1) ∧ w'.cell? ⟨r, p * 4 + 1, none⟩ = some (.int .i64 y2) ∧ w'.cell? ⟨r, p * 4 + 2, none⟩ = some (.int .i64 y3) ∧ w'.cell? ⟨r, p * 4 + 3, none⟩ = some (.int .i64 y4))
          (first | exact kk | go_keep)
          (first | (go_at_call 110; ((with_reducible refine (less_any _ _ _ _ _ _ _ _ _).mono ?_); rintro e w' ⟨rfl, hbw⟩; have kk := And.intro (cellB hbw hgl1 cg) (And.intro (cellB hbw hrl1 c1) (And.intro (cellB hbw hrl1 c2) (And.intro (cellB hbw hrl1 c3) (And.intro (cellB hbw hrl1 c4) (And.intro (cellB hbw hrl1 d1) (And.intro (cellB hbw hrl1 d2) (And.intro (cellB hbw hrl1 d3) (cellB hbw hrl1 d4)))))))))))
        have Hr2 := Lib.hid (Hr1.out.below (undrew hbw))
        have Hk2 : Hid (Kept (fun k => k = r) w w') := Lib.hid (Hk1.out.trans (Kept.of_below (undrew hbw)))
        clear hbw kk cg c1 c2 c3 c4 d1 d2 d3 d4
        go_wp2
        refine bodyPost_ret (results_none rfl _ _ _) rfl ?_
        exact ⟨rfl, ⟨k1, Hp1.out, Hu1.out.done (.inr (by rw [← Hp.out, Hx.out, Hy.out]; exact Hlt.out)), Hr2.out⟩, Hk2.out⟩
    · obtain rfl : j = 0 := by omega
      go_wp2
      go_end0
      exact ⟨rfl, ⟨k1, Hp1.out, Hu1.out.done (.inl rfl), Hr1.out⟩, Hk1.out⟩

end Go.Proofs.Ytpbbdnicafifpaa

/-! ## HpSinkA -/
namespace Go.Proofs.Ytpbbdnicafifpaa
open Go.RowKit

theorem children_any (i c1 c2 : Nat) (w : World) (h1 : c1 = 2 * i + 1) (h2 : c2 = 2 * i + 2) (hi : i ≤ 1000000) :
    Calls Try.prog 117 #[.int .i64 i] w fun e w' => e = .returned (.agg #[.int .i64 c1, .int .i64 c2]) ∧ Below w.heap.size w w' := by
  have e1 : (2 : Int) * (i : Int) + 1 = (c1 : Int) := by omega
  have e2 : (2 : Int) * (i : Int) + 2 = (c2 : Int) := by omega
  clear h1 h2
  have hi1 : (i : Int) ≤ 1000000 := by omega
  go_enter Try.func117, Try.ntmps117
  go_wp2
  refine bodyPost_ret (v := .agg #[.int .i64 c1, .int .i64 c2]) (by simp [results, Try.results117, go_sem]) rfl ⟨rfl, ?_⟩
  exact ((Below.refl _ _).alloc (Nat.le_refl _) _)

end Go.Proofs.Ytpbbdnicafifpaa

/-! ## HpSink -/
namespace Go.Proofs.Ytpbbdnicafifpaa
open Go.RowKit

/-- the least one so far, behind m of the two children -/
def lm (ks : List Key4) (i : Nat) : Nat → Nat
  | 0 => i
  | 1 => if 2 * i + 1 < ks.length ∧ klt (at4 ks (2 * i + 1)) (at4 ks i) = true then 2 * i + 1 else i
  | _ => least4 ks i

theorem idx0 (a b : Value) (w : World) : Sem.run Try.prog (Instr.index 157 (.agg #[a, b]) (.int .i64 0)) w = .ok a w := by
  simp [Instr.index, go_sem]
theorem idx1 (a b : Value) (w : World) : Sem.run Try.prog (Instr.index 157 (.agg #[a, b]) (.int .i64 1)) w = .ok b w := by
  simp [Instr.index, go_sem]

theorem lm_yes0 {ks : List Key4} {i c : Nat} (hc : c = 2 * i + 1) (h1 : c < ks.length) (h2 : klt (at4 ks c) (at4 ks i) = true) : lm ks i 1 = c := by
  subst hc; simp only [lm]; rw [if_pos ⟨h1, h2⟩]
theorem lm_no0 {ks : List Key4} {i c : Nat} (hc : c = 2 * i + 1) (h : c < ks.length → klt (at4 ks c) (at4 ks i) = false) : lm ks i 1 = i := by
  subst hc; simp only [lm]; rw [if_neg (fun ⟨a, b⟩ => by rw [h a] at b; cases b)]
theorem lm_yes1 {ks : List Key4} {i c L : Nat} (hc : c = 2 * i + 2) (hL : L = lm ks i 1) (h1 : c < ks.length) (h2 : klt (at4 ks c) (at4 ks L) = true) : lm ks i 2 = c := by
  subst hc hL; simp only [lm, least4] at *; rw [if_pos ⟨h1, h2⟩]
theorem lm_no1 {ks : List Key4} {i c L : Nat} (hc : c = 2 * i + 2) (hL : L = lm ks i 1) (h : c < ks.length → klt (at4 ks c) (at4 ks L) = false) : lm ks i 2 = L := by
  subst hc hL; simp only [lm, least4] at *; rw [if_neg (fun ⟨a, b⟩ => by rw [h a] at b; cases b)]
theorem lm_lt {ks : List Key4} {i : Nat} (hi : i < ks.length) : lm ks i 1 < ks.length := by
  simp only [lm]; split <;> omega

set_option maxHeartbeats 8000000 in
theorem sink_any (g o r cap i : Nat) (ks : List Key4) (w : World) (hrow : KeyRow w r cap ks) (hg : w.cell? ⟨g, o, none⟩ = some (.slice (some ⟨r, 0, none⟩) ks.length cap)) (hgl : g < w.heap.size) (hgr : g ≠ r)
    (hi : i < ks.length) (hdn : DownAt ks i) (hn : ks.length ≤ 1000000) :
    Calls Try.prog 107 #[.pointer (some ⟨g, o, none⟩), .int .i64 i] w (Settled r cap ks w) := by
  have Hrow := Lib.hid hrow
  have Hg := Lib.hid hg
  have Hdn := Lib.hid hdn
  clear hrow hg hdn
  obtain ⟨n, hnn⟩ : ∃ n, n = ks.length := ⟨_, rfl⟩
  rw [← hnn] at hi hn Hg
  have Hn := Lib.hid hnn
  clear hnn
  go_enter Try.func107, Try.ntmps107
  go_wp2
  go_loopw [1] (fun t wr => ∃ j : Nat, ∃ k1 : List Key4, t = .int .i64 j ∧ j < n ∧ Hid (n = k1.length) ∧ k1.Perm ks ∧ DownAt k1 j ∧ KeyRow wr r cap k1 ∧ Kept (fun k => k = r) w wr) (fun t _ => n - (intOf t).toNat)
  case atStart => exact ⟨i, ks, rfl, hi, Hn, List.Perm.refl _, Hdn.out, Hrow.out, Kept.refl _ _⟩
  case round =>
    obtain ⟨j, k1, rfl, hjn, hn1, hp1, hu1, hr1, hk1⟩ := hrel
    have Hp1 := Lib.hid hp1
    have Hu1 := Lib.hid hu1
    have Hr1 := Lib.hid hr1
    have Hk1 := Lib.hid hk1
    clear hp1 hu1 hr1 hk1
    obtain ⟨c1, hc1⟩ : ∃ c1, c1 = 2 * j + 1 := ⟨_, rfl⟩
    obtain ⟨c2, hc2⟩ : ∃ c2, c2 = 2 * j + 2 := ⟨_, rfl⟩
    have CH := Lib.hid (fun w => children_any j c1 c2 w hc1 hc2 (by omega))
    have hcb1 : c1 ≤ 3000000 := by omega
    have hcb2 : c2 ≤ 3000000 := by omega
    have Hc1 := Lib.hid hc1
    have Hc2 := Lib.hid hc2
    clear hc1 hc2
    go_wp2_with fail
    refine (CH.out _).mono ?_
    rintro e wc ⟨rfl, hbc⟩
    have Hr1c := Lib.hid (Hr1.out.below hbc)
    have Hk1c : Hid (Kept (fun k => k = r) w wc) := Lib.hid (Hk1.out.trans (Kept.of_below hbc))
    clear hbc
    go_wp2
    go_loopw [4, 10] (fun L idx wr2 => ∃ m : Nat, m ≤ 2 ∧ idx = .int .i64 m ∧ L = .int .i64 (lm k1 j m) ∧ KeyRow wr2 r cap k1 ∧ Kept (fun k => k = r) w wr2) (fun _ idx _ => 2 - (intOf idx).toNat)
    case atStart => exact ⟨0, by omega, rfl, rfl, Hr1c.out, Hk1c.out⟩
    case round =>
      obtain ⟨m, hm, rfl, rfl, hr2, hk2⟩ := hrel
      have Hr2 := Lib.hid hr2
      have Hk2 := Lib.hid hk2
      clear hr2 hk2
      match m, hm with
      | 0, _ =>
        rw [show lm k1 j 0 = j from rfl]
        have hidx := fun w => idx0 (.int .i64 (c1 : Nat)) (.int .i64 (c2 : Nat)) w
        have cg := Hk2.out.cell hgl hgr Hg.out
        have hgl2 : g < wr.heap.size := Nat.lt_of_lt_of_le hgl Hk2.out.size
        have hrl2 : r < wr.heap.size := Hr2.out.lt
        by_cases hcn : c1 < n
        · obtain ⟨x, hx⟩ : ∃ x, at4 k1 c1 = x := ⟨_, rfl⟩
          obtain ⟨y, hy⟩ : ∃ y, at4 k1 j = y := ⟨_, rfl⟩
          obtain ⟨c1', c2', c3', c4'⟩ := Hr2.out.cell4 c1 (by rw [← hn1.out]; exact hcn) x hx
          obtain ⟨d1, d2, d3, d4⟩ := Hr2.out.cell4 j (by rw [← hn1.out]; exact hjn) y hy
          have Hx := Lib.hid hx
          have Hy := Lib.hid hy
          clear hx hy
          obtain ⟨x1, x2, x3, x4⟩ := x
          obtain ⟨y1, y2, y3, y4⟩ := y
          simp only at c1' c2' c3' c4' d1 d2 d3 d4
          have i1 : (0 : Int) ≤ (c1 : Int) := by omega
          have i2 : (c1 : Int) < (n : Int) := by omega
          have i3 : (0 : Int) ≤ (j : Int) := by omega
          have i4 : (j : Int) < (n : Int) := by omega
          have gd : decide ((c1 : Int) < (n : Int)) = true := by simp; omega
          have gd2 : decide (c1 < n) = true := by simp; omega
          cases hlt : klt (x1, x2, x3, x4) (y1, y2, y3, y4) with
          | true =>
            have Hnx : Hid (lm k1 j 1 = c1) := Lib.hid (lm_yes0 Hc1.out (by rw [← hn1.out]; exact hcn) (by rw [Hx.out, Hy.out]; exact hlt))
            go_wp2
            go_region_held3 (fun w' => w'.cell? ⟨g, o, none⟩ = some (.slice (some ⟨r, 0, none⟩) n cap) ∧ w'.cell? ⟨r, c1 * 4, none⟩ = some (.int .i64 x1) ∧ w'.cell? ⟨r, c1 * 4 + 1, none⟩ = some (.int .i64 x2) ∧ w'.cell? ⟨r, c1 * 4 + 2, none⟩ = some (.int .i64 x3) ∧ w'.cell? ⟨r, c1 * 4 + 3, none⟩ = some (.int .i64 x4)
            ∧ w'.cell? ⟨r, j * 4, none⟩ = some (.int .i64 y1) ∧ w'.cell? ⟨r, j * 4 + 1, none⟩ = some (.int .i64 y2) ∧ w'.cell? ⟨r, j * 4 + 2, none⟩ = some (.int .i64 y3) ∧ w'.cell? ⟨r, j * 4 + 3, none⟩ = some (.int .i64 y4))
              (first | exact kk | go_keep)
              (first | (go_at_call 110; ((with_reducible refine (less_any _ _ _ _ _ _ _ _ _).mono ?_); rintro e w' ⟨rfl, hbw⟩; have kk := And.intro (cellB hbw hgl2 cg) (And.intro (cellB hbw hrl2 c1') (And.intro (cellB hbw hrl2 c2') (And.intro (cellB hbw hrl2 c3') (And.intro (cellB hbw hrl2 c4') (And.intro (cellB hbw hrl2 d1) (And.intro (cellB hbw hrl2 d2) (And.intro (cellB hbw hrl2 d3) (cellB hbw hrl2 d4)))))))))))
            have Hr3 := Lib.hid (Hr2.out.below (undrew hbw))
            have Hk3 : Hid (Kept (fun k => k = r) w w') := Lib.hid (Hk2.out.trans (Kept.of_below (undrew hbw)))
            clear hbw kk cg c1' c2' c3' c4' d1 d2 d3 d4 hlt
            go_wp2
            go_roundw
            case rel => exact ⟨1, by omega, rfl, by rw [Hnx.out], Hr3.out, Hk3.out⟩
            case measure => simp [intOf]
          | false =>
            have Hnx : Hid (lm k1 j 1 = j) := Lib.hid (lm_no0 Hc1.out (fun _ => by rw [Hx.out, Hy.out]; exact hlt))
            go_wp2
            go_region_held3 (fun w' => w'.cell? ⟨g, o, none⟩ = some (.slice (some ⟨r, 0, none⟩) n cap) ∧ w'.cell? ⟨r, c1 * 4, none⟩ = some (.int .i64 x1) ∧ w'.cell? ⟨r, c1 * 4 + 1, none⟩ = some (.int .i64 x2) ∧ w'.cell? ⟨r, c1 * 4 + 2, none⟩ = some (.int .i64 x3) ∧ w'.cell? ⟨r, c1 * 4 + 3, none⟩ = some (.int .i64 x4)
            ∧ w'.cell? ⟨r, j * 4, none⟩ = some (.int .i64 y1) ∧ w'.cell? ⟨r, j * 4 + 1, none⟩ = some (.int .i64 y2) ∧ w'.cell? ⟨r, j * 4 + 2, none⟩ = some (.int .i64 y3) ∧ w'.cell? ⟨r, j * 4 + 3, none⟩ = some (.int .i64 y4))
              (first | exact kk | go_keep)
              (first | (go_at_call 110; ((with_reducible refine (less_any _ _ _ _ _ _ _ _ _).mono ?_); rintro e w' ⟨rfl, hbw⟩; have kk := And.intro (cellB hbw hgl2 cg) (And.intro (cellB hbw hrl2 c1') (And.intro (cellB hbw hrl2 c2') (And.intro (cellB hbw hrl2 c3') (And.intro (cellB hbw hrl2 c4') (And.intro (cellB hbw hrl2 d1) (And.intro (cellB hbw hrl2 d2) (And.intro (cellB hbw hrl2 d3) (cellB hbw hrl2 d4)))))))))))
            have Hr3 := Lib.hid (Hr2.out.below (undrew hbw))
            have Hk3 : Hid (Kept (fun k => k = r) w w') := Lib.hid (Hk2.out.trans (Kept.of_below (undrew hbw)))
            clear hbw kk cg c1' c2' c3' c4' d1 d2 d3 d4 hlt
            go_wp2
            go_roundw
            case rel => exact ⟨1, by omega, rfl, by rw [Hnx.out], Hr3.out, Hk3.out⟩
            case measure => simp [intOf]
        · have gd : decide ((c1 : Int) < (n : Int)) = false := by simp; omega
          have gd2 : decide (c1 < n) = false := by simp; omega
          have Hnx : Hid (lm k1 j 1 = j) := Lib.hid (lm_no0 Hc1.out (fun h => absurd h (by rw [← hn1.out]; exact hcn)))
          go_wp2
          go_quiet (fail)
          go_wp2
          go_roundw
          case rel => exact ⟨1, by omega, rfl, by rw [Hnx.out], Hr2.out.same rfl, Hk2.out.drewN _⟩
          case measure => simp [intOf]

      | 1, _ =>
        obtain ⟨L, hL⟩ : ∃ L, L = lm k1 j 1 := ⟨_, rfl⟩
        have hLn : L < n := by rw [hL, hn1.out]; exact lm_lt (by rw [← hn1.out]; exact hjn)
        rw [← hL]
        have HL := Lib.hid hL
        clear hL
        have hidx := fun w => idx1 (.int .i64 (c1 : Nat)) (.int .i64 (c2 : Nat)) w
        have cg := Hk2.out.cell hgl hgr Hg.out
        have hgl2 : g < wr.heap.size := Nat.lt_of_lt_of_le hgl Hk2.out.size
        have hrl2 : r < wr.heap.size := Hr2.out.lt
        by_cases hcn : c2 < n
        · obtain ⟨x, hx⟩ : ∃ x, at4 k1 c2 = x := ⟨_, rfl⟩
          obtain ⟨y, hy⟩ : ∃ y, at4 k1 L = y := ⟨_, rfl⟩
          obtain ⟨c1', c2', c3', c4'⟩ := Hr2.out.cell4 c2 (by rw [← hn1.out]; exact hcn) x hx
          obtain ⟨d1, d2, d3, d4⟩ := Hr2.out.cell4 L (by rw [← hn1.out]; exact hLn) y hy
          have Hx := Lib.hid hx
          have Hy := Lib.hid hy
          clear hx hy
          obtain ⟨x1, x2, x3, x4⟩ := x
          obtain ⟨y1, y2, y3, y4⟩ := y
          simp only at c1' c2' c3' c4' d1 d2 d3 d4
          have i1 : (0 : Int) ≤ (c2 : Int) := by omega
          have i2 : (c2 : Int) < (n : Int) := by omega
          have i3 : (0 : Int) ≤ (L : Int) := by omega
          have i4 : (L : Int) < (n : Int) := by omega
          have gd : decide ((c2 : Int) < (n : Int)) = true := by simp; omega
          have gd2 : decide (c2 < n) = true := by simp; omega
          cases hlt : klt (x1, x2, x3, x4) (y1, y2, y3, y4) with
          | true =>
            have Hnx : Hid (lm k1 j 2 = c2) := Lib.hid (lm_yes1 Hc2.out HL.out (by rw [← hn1.out]; exact hcn) (by rw [Hx.out, Hy.out]; exact hlt))
            go_wp2
            go_region_held3 (fun w' => w'.cell? ⟨g, o, none⟩ = some (.slice (some ⟨r, 0, none⟩) n cap) ∧ w'.cell? ⟨r, c2 * 4, none⟩ = some (.int .i64 x1) ∧ w'.cell? ⟨r, c2 * 4 + 1, none⟩ = some (.int .i64 x2) ∧ w'.cell? ⟨r, c2 * 4 + 2, none⟩ = some (.int .i64 x3) ∧ w'.cell? ⟨r, c2 * 4 + 3, none⟩ = some (.int .i64 x4)
            ∧ w'.cell? ⟨r, L * 4, none⟩ = some (.int .i64 y1) ∧ w'.cell? ⟨r, L * 4 + 1, none⟩ = some (.int .i64 y2) ∧ w'.cell? ⟨r, L * 4 + 2, none⟩ = some (.int .i64 y3) ∧ w'.cell? ⟨r, L * 4 + 3, none⟩ = some (.int .i64 y4))
              (first | exact kk | go_keep)
              (first | (go_at_call 110; ((with_reducible refine (less_any _ _ _ _ _ _ _ _ _).mono ?_); rintro e w' ⟨rfl, hbw⟩; have kk := And.intro (cellB hbw hgl2 cg) (And.intro (cellB hbw hrl2 c1') (And.intro (cellB hbw hrl2 c2') (And.intro (cellB hbw hrl2 c3') (And.intro (cellB hbw hrl2 c4') (And.intro (cellB hbw hrl2 d1) (And.intro (cellB hbw hrl2 d2) (And.intro (cellB hbw hrl2 d3) (cellB hbw hrl2 d4)))))))))))
            have Hr3 := Lib.hid (Hr2.out.below (undrew hbw))
            have Hk3 : Hid (Kept (fun k => k = r) w w') := Lib.hid (Hk2.out.trans (Kept.of_below (undrew hbw)))
            clear hbw kk cg c1' c2' c3' c4' d1 d2 d3 d4 hlt
            go_wp2
            go_roundw
            case rel => exact ⟨2, by omega, rfl, by rw [Hnx.out], Hr3.out, Hk3.out⟩
            case measure => simp [intOf]
          | false =>
            have Hnx : Hid (lm k1 j 2 = L) := Lib.hid (lm_no1 Hc2.out HL.out (fun _ => by rw [Hx.out, Hy.out]; exact hlt))
            go_wp2
            go_region_held3 (fun w' => w'.cell? ⟨g, o, none⟩ = some (.slice (some ⟨r, 0, none⟩) n cap) ∧ w'.cell? ⟨r, c2 * 4, none⟩ = some (.int .i64 x1) ∧ w'.cell? ⟨r, c2 * 4 + 1, none⟩ = some (.int .i64 x2) ∧ w'.cell? ⟨r, c2 * 4 + 2, none⟩ = some (.int .i64 x3) ∧ w'.cell? ⟨r, c2 * 4 + 3, none⟩ = some (.int .i64 x4)
            ∧ w'.cell? ⟨r, L * 4, none⟩ = some (.int .i64 y1) ∧ w'.cell? ⟨r, L * 4 + 1, none⟩ = some (.int .i64 y2) ∧ w'.cell? ⟨r, L * 4 + 2, none⟩ = some (.int .i64 y3) ∧ w'.cell? ⟨r, L * 4 + 3, none⟩ = some (.int .i64 y4))
              (first | exact kk | go_keep)
              (first | (go_at_call 110; ((with_reducible refine (less_any _ _ _ _ _ _ _ _ _).mono ?_); rintro e w' ⟨rfl, hbw⟩; have kk := And.intro (cellB hbw hgl2 cg) (And.intro (cellB hbw hrl2 c1') (And.intro (cellB hbw hrl2 c2') (And.intro (cellB hbw hrl2 c3') (And.intro (cellB hbw hrl2 c4') (And.intro (cellB hbw hrl2 d1) (And.intro (cellB hbw hrl2 d2) (And.intro (cellB hbw hrl2 d3) (cellB hbw hrl2 d4)))))))))))
            have Hr3 := Lib.hid (Hr2.out.below (undrew hbw))
            have Hk3 : Hid (Kept (fun k => k = r) w w') := Lib.hid (Hk2.out.trans (Kept.of_below (undrew hbw)))
            clear hbw kk cg c1' c2' c3' c4' d1 d2 d3 d4 hlt
            go_wp2
            go_roundw
            case rel => exact ⟨2, by omega, rfl, by rw [Hnx.out], Hr3.out, Hk3.out⟩
            case measure => simp [intOf]
        · have gd : decide ((c2 : Int) < (n : Int)) = false := by simp; omega
          have gd2 : decide (c2 < n) = false := by simp; omega
          have Hnx : Hid (lm k1 j 2 = L) := Lib.hid (lm_no1 Hc2.out HL.out (fun h => absurd h (by rw [← hn1.out]; exact hcn)))
          go_wp2
          go_quiet (fail)
          go_wp2
          go_roundw
          case rel => exact ⟨2, by omega, rfl, by rw [Hnx.out], Hr2.out.same rfl, Hk2.out.drewN _⟩
          case measure => simp [intOf]

      | 2, _ =>
        rw [show lm k1 j 2 = least4 k1 j from rfl]
        obtain ⟨L, hL⟩ : ∃ L, L = least4 k1 j := ⟨_, rfl⟩
        rw [← hL]
        have hLn : L < n := by rw [hL, hn1.out]; exact least4_lt (by rw [← hn1.out]; exact hjn)
        have HL := Lib.hid hL
        clear hL
        by_cases hLj : L = j
        · have hb : ((L : Int) == (j : Int)) = true := by rw [beq_iff_eq]; omega
          have HLj := Lib.hid hLj
          clear hLj
          go_wp2
          refine bodyPost_ret (results_none rfl _ _ _) rfl ?_
          exact ⟨rfl, ⟨k1, Hp1.out, Hu1.out.done (by rw [← HL.out]; exact HLj.out), Hr2.out⟩, Hk2.out⟩
        · have hjL : j < L := by
            have := least4_cases k1 j
            rw [← HL.out] at this
            omega
          have hb : ((L : Int) == (j : Int)) = false := by rw [beq_eq_false_iff_ne]; omega
          clear hLj
          have hjL' : j ≠ L := by omega
          obtain ⟨x, hx⟩ : ∃ x, at4 k1 j = x := ⟨_, rfl⟩
          obtain ⟨y, hy⟩ : ∃ y, at4 k1 L = y := ⟨_, rfl⟩
          obtain ⟨c1', c2', c3', c4'⟩ := Hr2.out.cell4 j (by rw [← hn1.out]; exact hjn) x hx
          obtain ⟨d1, d2, d3, d4⟩ := Hr2.out.cell4 L (by rw [← hn1.out]; exact hLn) y hy
          have cg := Hk2.out.cell hgl hgr Hg.out
          have Hx := Lib.hid hx
          have Hy := Lib.hid hy
          clear hx hy
          obtain ⟨x1, x2, x3, x4⟩ := x
          obtain ⟨y1, y2, y3, y4⟩ := y
          simp only at c1' c2' c3' c4' d1 d2 d3 d4
          have i1 : (0 : Int) ≤ (L : Int) := by omega
          have i2 : (L : Int) < (n : Int) := by omega
          have i3 : (0 : Int) ≤ (j : Int) := by omega
          have i4 : (j : Int) < (n : Int) := by omega
          have f1 := Hr2.out.frozen (j * 4)
          have f2 := Hr2.out.frozen (j * 4 + 1)
          have f3 := Hr2.out.frozen (j * 4 + 2)
          have f4 := Hr2.out.frozen (j * 4 + 3)
          have f5 := Hr2.out.frozen (L * 4)
          have f6 := Hr2.out.frozen (L * 4 + 1)
          have f7 := Hr2.out.frozen (L * 4 + 2)
          have f8 := Hr2.out.frozen (L * 4 + 3)
          go_wp2
          go_region
          go_wp2
          go_roundw
          case rel =>
            have hjl : j < k1.length := by rw [← hn1.out]; exact hjn
            have hLl : L < k1.length := by rw [← hn1.out]; exact hLn
            have hs := (swap_world wr r j L k1 cap Hr2.out hjl hLl).drew
            rw [Hx.out, Hy.out] at hs
            have hk := ((Hk2.out.put (r := r) rfl j (y1, y2, y3, y4)).put (r := r) rfl L (x1, x2, x3, x4)).drew
            have hu := Hu1.out.step hjl (by rw [← HL.out]; omega)
            rw [← HL.out] at hu
            exact ⟨L, swap4 k1 j L, rfl, hLn, Lib.hid (by rw [swap4_len]; exact hn1.out), (swap4_perm k1 j L hjl hLl).trans Hp1.out, hu, hs, hk⟩
          case measure => simp [intOf]; omega

end Go.Proofs.Ytpbbdnicafifpaa

/-! ## Hp -/
namespace Go.Proofs.Ytpbbdnicafifpaa
open Go.RowKit
set_option linter.unusedVariables false

/-- a Heap whose slice v lies in cell o of block g and holds the keys ks, in rows from block B on -/
structure HpAt (B : Nat) (w : World) (g o : Nat) (v : Value) (ks : List Key4) : Prop where
  blk : ∃ cur t, w.heap[g]? = some (.cells cur t (0, 0)) ∧ cur[o]? = some v
  own : w.ownsRow B 112 4 v ks.length (kcells ks)
  ne : v.ownBlock ≠ some g
  heap : IsHeap ks

theorem Try.infoKey : (Try.prog.info? 112).map (fun i => (i.zero, i.size, i.bytes)) = some (some (.agg #[.int .i64 0, .int .i64 0, .int .i64 0, .int .i64 0]), 4, 32) := by kernel_rfl

/-- one cell set alike on both sides -/
theorem Kept.setSame {S : Nat → Prop} {w w1 : World} {g o : Nat} {cur : Array Value} {t : TypeId} {fl : Nat × Nat} (h : Kept S w w1) (hb : w.heap[g]? = some (.cells cur t fl)) (hg : ¬ S g) (x : Value) : Kept S (w.setCell ⟨g, o, none⟩ x) (w1.setCell ⟨g, o, none⟩ x) := by
  refine ⟨h.os, h.tape, h.output, by rw [World.size_setCell, World.size_setCell]; exact h.size, fun k hk hs => ?_⟩
  rw [World.size_setCell] at hk
  by_cases e : k = g
  · subst e
    have h1 : w1.heap[k]? = some (.cells cur t fl) := (h.block k hk hs).trans hb
    rw [Joins.block_setCell (i := o) h1, Joins.block_setCell (i := o) hb]
  · rw [Below.heap_setCell _ _ _ _ e, Below.heap_setCell _ _ _ _ e]
    exact h.block k hk hs
theorem Kept.trans2 {S T : Nat → Prop} {w w' w'' : World} (h : Kept S w w') (k : Kept T w' w'') (hT : ∀ i, i < w.heap.size → T i → S i) : Kept S w w'' :=
  ⟨k.os.trans h.os, k.tape.trans h.tape, k.output.trans h.output, Nat.le_trans h.size k.size, fun i hi hs => (k.block i (Nat.lt_of_lt_of_le hi h.size) (fun ht => hs (hT i hi ht))).trans (h.block i hi hs)⟩
theorem Kept.setNew {S : Nat → Prop} {w w' : World} (h : Kept S w w') {p : Addr} (hp : w.heap.size ≤ p.block) (v : Value) : Kept S w (w'.setCell p v) :=
  ⟨h.os, h.tape, h.output, by rw [World.size_setCell]; exact h.size, fun k hk hs => (Below.heap_setCell _ _ _ _ (by omega)).trans (h.block k hk hs)⟩

section
variable {B g o : Nat} {w w' : World} {v : Value} {ks : List Key4} {S : Nat → Prop}
theorem HpAt.lt (h : HpAt B w g o v ks) : g < w.heap.size := by
  obtain ⟨cur, t, hb, _⟩ := h.blk
  exact (Array.getElem?_eq_some_iff.1 hb).1
theorem HpAt.cell (h : HpAt B w g o v ks) : w.cell? ⟨g, o, none⟩ = some v := by
  obtain ⟨cur, t, hb, hc⟩ := h.blk
  rw [cell_of_row w g o _ _ (0, 0) hb]; exact hc
theorem HpAt.notFrozen (h : HpAt B w g o v ks) : w.frozen? ⟨g, o, none⟩ = false := by
  obtain ⟨cur, t, hb, _⟩ := h.blk
  simp [World.frozen?, hb]
theorem HpAt.form (h : HpAt B w g o v ks) : ∃ a cap, v = .slice a ks.length cap := by
  rcases h.own.2 with ⟨rfl, h0⟩ | ⟨r, cap, cur, rfl, _⟩
  · exact ⟨none, 0, by rw [h0]⟩
  · exact ⟨_, cap, rfl⟩
theorem HpAt.row (h : HpAt B w g o v ks) (hp : 0 < ks.length) : ∃ r cap, v = .slice (some ⟨r, 0, none⟩) ks.length cap ∧ KeyRow w r cap ks ∧ g ≠ r ∧ B ≤ r := by
  have hne := h.ne
  rcases h.own.2 with ⟨rfl, h0⟩ | ⟨r, cap, cur, rfl, hBr, hb, hl, hm, hs, ht⟩
  · omega
  · refine ⟨r, cap, rfl, ⟨⟨cur, hb, hs, ht⟩, hl, hm⟩, ?_, hBr⟩
    rintro rfl
    simp [Value.ownBlock] at hne
theorem HpAt.kept (h : HpAt B w g o v ks) (hk : Kept S w w') (hg : ¬ S g) (hv : ∀ r, v.ownBlock = some r → ¬ S r) : HpAt B w' g o v ks := by
  have hlt := h.lt
  obtain ⟨cur, t, hb, hc⟩ := h.blk
  refine ⟨⟨cur, t, (hk.block g hlt hg).trans hb, hc⟩, ⟨h.own.1, ?_⟩, h.ne, h.heap⟩
  rcases h.own.2 with h0 | ⟨r, cap, cur, rfl, hBr, hb, rest⟩
  · exact .inl h0
  · exact .inr ⟨r, cap, cur, rfl, hBr, (hk.block r (Array.getElem?_eq_some_iff.1 hb).1 (hv r (by simp [Value.ownBlock]))).trans hb, rest⟩
theorem HpAt.below (h : HpAt B w g o v ks) (hb : Below w.heap.size w w') : HpAt B w' g o v ks :=
  h.kept (S := fun _ => False) (Kept.of_below hb) (fun h => h) (fun _ _ h => h)
end

/-- what Push leaves -/
def HpPushed (B g o : Nat) (v : Value) (ks : List Key4) (x : Key4) (w : World) (e : Ending) (w' : World) : Prop :=
  e = .returned (.tuple #[]) ∧ ∃ v' ks', ks'.Perm (x :: ks) ∧ IsHeap ks' ∧ w'.ownsRow B 112 4 v' ks'.length (kcells ks') ∧
    Kept (fun k => v.ownBlock = some k) (w.setCell ⟨g, o, none⟩ v') w' ∧ (v'.ownBlock = v.ownBlock ∨ ∃ k, v'.ownBlock = some k ∧ w.heap.size ≤ k)

theorem new_key (w : World) (o : Obj) {x1 x2 x3 x4 : Int} : ∀ j u, (kc (x1, x2, x3, x4))[j]? = some u → ((w.alloc o).alloc (.cells #[.int .i64 x1, .int .i64 x2, .int .i64 x3, .int .i64 x4] 112)).drew.cell? ((⟨w.heap.size + 1, 0, none⟩ : Addr).add j) = some u := by
  intro j u hj
  have hb : ((w.alloc o).alloc (.cells #[.int .i64 x1, .int .i64 x2, .int .i64 x3, .int .i64 x4] 112)).drew.heap[w.heap.size + 1]? = some (.cells #[.int .i64 x1, .int .i64 x2, .int .i64 x3, .int .i64 x4] 112 (0, 0)) := by
    have := heap_alloc_new (w.alloc o) (.cells #[.int .i64 x1, .int .i64 x2, .int .i64 x3, .int .i64 x4] 112)
    rw [show (w.alloc o).heap.size = w.heap.size + 1 by simp] at this
    exact this
  have e : (⟨w.heap.size + 1, 0, none⟩ : Addr).add j = ⟨w.heap.size + 1, j, none⟩ := by simp [Addr.add]; omega
  rw [e, cell_of_row _ _ j _ _ (0, 0) hb, ← hj]
  simp [kc]

theorem hp_grow {B g o : Nat} {v : Value} {ks : List Key4} {w w1 : World} {o1 o2 : Obj} (h : HpAt B w g o v ks) (hg : ((w.alloc o1).alloc o2).drew.grownBy w1 v.ownBlock) :
    w1.cell? ⟨g, o, none⟩ = some v ∧ w1.frozen? ⟨g, o, none⟩ = false ∧ Hid (Kept (fun k => v.ownBlock = some k) w w1) := by
  have k1 : Kept (fun k => v.ownBlock = some k) w w1 := (((Kept.refl _ w).alloc o1).alloc o2).drew.grown hg (fun _ h => h)
  have hb : w1.heap[g]? = w.heap[g]? := k1.block g h.lt h.ne
  exact ⟨(World.cell?_of_block (a := ⟨g, o, none⟩) hb).trans h.cell, (World.frozen?_of_block (a := ⟨g, o, none⟩) hb).trans h.notFrozen, Lib.hid k1⟩

theorem row_of_own {B gg n cap : Nat} {w : World} {ks : List Key4} (hn : n = ks.length) (h : w.ownsRow B 112 4 (.slice (some ⟨gg, 0, none⟩) n cap) n (kcells ks)) : KeyRow w gg cap ks ∧ B ≤ gg := by
  subst hn
  rcases h.2 with ⟨h', _⟩ | ⟨r, c, cur, h', hBr, hb, hl, hm, hs, ht⟩
  · simp at h'
  · simp only [Value.slice.injEq, Option.some.injEq, Addr.mk.injEq, and_true, true_and] at h'
    obtain ⟨rfl, rfl⟩ := h'
    exact ⟨⟨⟨cur, hb, hs, ht⟩, hl, hm⟩, hBr⟩

theorem own_of_row {B r cap : Nat} {w : World} {ks : List Key4} (h : KeyRow w r cap ks) (hB : B ≤ r) : w.ownsRow B 112 4 (.slice (some ⟨r, 0, none⟩) ks.length cap) ks.length (kcells ks) := by
  obtain ⟨cur, hb, hs, ht⟩ := h.blk
  exact ⟨kcells_len ks, .inr ⟨r, cap, cur, rfl, hB, hb, h.le, h.mx, hs, ht⟩⟩

theorem hp_rise {B g o gg cap H : Nat} {v : Value} {ks : List Key4} {x : Key4} {w w1 : World} (h : HpAt B w g o v ks) (hn : ks.length ≤ 100000) (hH : w.heap.size ≤ H)
    (hown1 : w1.ownsRow B 112 4 (.slice (some ⟨gg, 0, none⟩) (ks.length + 1) cap) (ks.length + 1) (kcells ks ++ kc x)) (hat : v.ownBlock = some gg ∨ gg = H)
    (q1 : w1.cell? ⟨g, o, none⟩ = some v) (q3 : Kept (fun k => v.ownBlock = some k) w w1) (hgg : g ≠ gg) :
    Calls Try.prog 91 #[.pointer (some ⟨g, o, none⟩), .int .i64 ks.length] (w1.setCell ⟨g, o, none⟩ (.slice (some ⟨gg, 0, none⟩) (ks.length + 1) cap)) (HpPushed B g o v ks x w) := by
  have hl : (ks ++ [x]).length = ks.length + 1 := by simp
  rw [← kcells_snoc] at hown1
  obtain ⟨hrow, hBg⟩ := row_of_own hl.symm hown1
  have hrow2 : KeyRow (w1.setCell ⟨g, o, none⟩ (.slice (some ⟨gg, 0, none⟩) (ks.length + 1) cap)) gg cap (ks ++ [x]) :=
    hrow.same (Below.heap_setCell _ _ _ _ (Ne.symm hgg))
  have hcell := World.cell?_setCell_same w1 ⟨g, o, none⟩ (.slice (some ⟨gg, 0, none⟩) (ks.length + 1) cap) q1
  have hglt : g < (w1.setCell ⟨g, o, none⟩ (.slice (some ⟨gg, 0, none⟩) (ks.length + 1) cap)).heap.size := by rw [World.size_setCell]; exact Nat.lt_of_lt_of_le h.lt q3.size
  obtain ⟨cur, t, hb, hc⟩ := h.blk
  have hK := q3.setSame (o := o) hb h.ne (.slice (some ⟨gg, 0, none⟩) (ks.length + 1) cap)
  rw [← hl] at hcell hrow2 hK hglt ⊢
  refine (rise_any g o gg cap ks.length (ks ++ [x]) _ hrow2 hcell hglt hgg (by omega) (h.heap.push x) (by omega)).mono ?_
  rintro e w' ⟨rfl, ⟨ks', hp, hh, hr⟩, hk⟩
  refine ⟨rfl, .slice (some ⟨gg, 0, none⟩) (ks ++ [x]).length cap, ks', hp.trans (List.perm_append_singleton x ks), hh, ?_, hK.trans2 hk ?_, ?_⟩
  · have := own_of_row hr hBg
    rw [hp.length_eq] at this
    rw [hp.length_eq]
    exact this
  · rintro i hi rfl
    rw [World.size_setCell] at hi
    rcases hat with e | e
    · exact e
    · omega
  · rcases hat with e | e
    · exact .inl e.symm
    · exact .inr ⟨gg, rfl, by omega⟩

set_option maxHeartbeats 2000000 in
theorem hpush_any (B g o : Nat) (v : Value) (ks : List Key4) (x1 x2 x3 x4 : Int) (w : World) (h : HpAt B w g o v ks) (hn : ks.length ≤ 100000) (hB : B ≤ w.heap.size) :
    Calls Try.prog 68 #[.pointer (some ⟨g, o, none⟩), .agg #[.int .i64 x1, .int .i64 x2, .int .i64 x3, .int .i64 x4]] w (HpPushed B g o v ks (x1, x2, x3, x4) w) := by
  obtain ⟨i0, hi0, hz0, hz1, hz2⟩ := info_parts Try.infoKey
  have hgl := h.lt
  have hc := h.cell
  have hf := h.notFrozen
  have H := Lib.hid h
  clear h
  go_enter Try.func68, Try.ntmps68
  go_wp2
  go_region_law (refine step_append_lies _ (by rfl) (.tmp 10) (.tmp 12) 101 (by rfl) B 112 i0 _ 4 32 Try.underlying101 hi0 hz0 hz1 hz2 rfl (by omega) v ks.length (kcells ks) (by rfl) (((H.out.own.alloc _).alloc _).drew) ⟨w.heap.size + 1, 0, none⟩ 1 1 (kc (x1, x2, x3, x4)) (by rfl) (by rfl) (new_key _ _) (by simp [kc, Value.oneCell']) (by omega) (by unfold maxLen; omega) (by omega) (by simp; omega) (w.heap.size + 2) (by simp) ?_; intro gg cap w1 hown1 hgrow hat hlt; obtain ⟨q1, q2, q3⟩ := hp_grow H.out hgrow; clear hgrow)
  all_goals
    have hne := H.out.ne
    have hgg : g ≠ gg := by
      rcases hat with e | e
      · intro h; subst h; exact hne e
      · omega
    have Hat := Lib.hid hat
    have Hown1 := Lib.hid hown1
    clear hat hown1 hne hc hf
    go_wp2_with fail
    refine (hp_rise H.out hn (by omega) Hown1.out Hat.out q1 q3.out hgg).mono ?_
    rintro e w' ⟨rfl, hv⟩
    have Hv := Lib.hid hv
    clear hv
    go_wp2
    go_end0
    exact ⟨rfl, Hv.out⟩

theorem hlen_any (B g o : Nat) (v : Value) (ks : List Key4) (w : World) (h : HpAt B w g o v ks) :
    Calls Try.prog 90 #[.pointer (some ⟨g, o, none⟩)] w fun e w' => e = .returned (.int .i64 ks.length) ∧ w = w' := by
  have hc := h.cell
  obtain ⟨a, cap, hv⟩ := h.form
  subst hv
  clear h
  go_enter Try.func90, Try.ntmps90
  go_wp2
  go_ret
  exact ⟨rfl, rfl⟩

/-- no key -/
abbrev zeroKey : Value := .agg #[.int .i64 0, .int .i64 0, .int .i64 0, .int .i64 0]

theorem htop_empty (B g o : Nat) (v : Value) (w : World) (h : HpAt B w g o v []) :
    Calls Try.prog 67 #[.pointer (some ⟨g, o, none⟩)] w fun e w' => e = .returned (.tuple #[zeroKey, .bool false]) ∧ Below w.heap.size w w' := by
  have hL := Lib.hid (fun w (h : HpAt B w g o v []) => hlen_any B g o v [] w h)
  have hb : Below w.heap.size w (w.alloc (.cells #[.int .i64 0, .int .i64 0, .int .i64 0, .int .i64 0] 112)) := (Below.refl _ _).alloc (Nat.le_refl _) _
  have H := Lib.hid (h.below hb)
  clear h
  go_enter Try.func67, Try.ntmps67
  go_wp2_with fail
  refine (hL.out _ H.out).mono ?_
  rintro e w' ⟨rfl, rfl⟩
  simp only [List.length_nil]
  go_wp2
  refine bodyPost_ret (v := .tuple #[zeroKey, .bool false]) (by simp [results, Try.results67, go_sem]) rfl ⟨rfl, ?_⟩
  exact (Below.refl _ _).alloc (Nat.le_refl _) _

theorem htop_some (B g o : Nat) (v : Value) (ks : List Key4) (w : World) (h : HpAt B w g o v ks) (hp : 0 < ks.length) (x1 x2 x3 x4 : Int) (hx : at4 ks 0 = (x1, x2, x3, x4)) :
    Calls Try.prog 67 #[.pointer (some ⟨g, o, none⟩)] w fun e w' => e = .returned (.tuple #[.agg #[.int .i64 x1, .int .i64 x2, .int .i64 x3, .int .i64 x4], .bool true]) ∧ Below w.heap.size w w' := by
  have hL := Lib.hid (fun w (h : HpAt B w g o v ks) => hlen_any B g o v ks w h)
  have hb : Below w.heap.size w (w.alloc (.cells #[.int .i64 0, .int .i64 0, .int .i64 0, .int .i64 0] 112)) := (Below.refl _ _).alloc (Nat.le_refl _) _
  have h1 := h.below hb
  have H := Lib.hid h1
  obtain ⟨r, cap, hv, hr, hgr, _⟩ := h.row hp
  have hgl := h.lt
  have hrl := hr.lt
  have hc := h.cell
  rw [hv] at hc
  have Hv := Lib.hid hv
  obtain ⟨c1, c2, c3, c4⟩ := hr.cell4 0 hp _ hx
  simp only [Nat.zero_mul, Nat.zero_add] at c1 c2 c3 c4
  clear h h1 hv hr hx
  have hlen : ((ks.length : Int) == 0) = false := by rw [beq_eq_false_iff_ne]; omega
  have hl0 : (0 : Int) < (ks.length : Int) := by omega
  go_enter Try.func67, Try.ntmps67
  go_wp2_with fail
  refine (hL.out _ H.out).mono ?_
  rintro e w' ⟨rfl, rfl⟩
  go_wp2
  refine bodyPost_ret (v := .tuple #[.agg #[.int .i64 x1, .int .i64 x2, .int .i64 x3, .int .i64 x4], .bool true]) (by simp [results, Try.results67, go_sem]) rfl ⟨rfl, ?_⟩
  exact (Below.refl _ _).alloc (Nat.le_refl _) _

set_option maxHeartbeats 2000000 in
theorem hsink_empty (g o : Nat) (a : Option Addr) (cap : Nat) (w : World) (hg : w.cell? ⟨g, o, none⟩ = some (.slice a 0 cap)) (hgl : g < w.heap.size) :
    Calls Try.prog 107 #[.pointer (some ⟨g, o, none⟩), .int .i64 0] w fun e w' => e = .returned (.tuple #[]) ∧ Below w.heap.size w w' := by
  have Hg := Lib.hid hg
  clear hg
  have CH := Lib.hid (fun w => children_any 0 1 2 w rfl rfl (by omega))
  go_enter Try.func107, Try.ntmps107
  go_wp2
  go_loopw [1] (fun t wr => t = .int .i64 0 ∧ w = wr) (fun _ _ => 0)
  case atStart => exact ⟨rfl, rfl⟩
  case round =>
    obtain ⟨rfl, rfl⟩ := hrel
    go_wp2_with fail
    refine (CH.out _).mono ?_
    rintro e wc ⟨rfl, hbc⟩
    have Hb := Lib.hid hbc
    clear hbc
    go_wp2
    go_loopw [4, 10] (fun L idx wr2 => ∃ m : Nat, m ≤ 2 ∧ idx = .int .i64 m ∧ L = .int .i64 0 ∧ Below w.heap.size w wr2) (fun _ idx _ => 2 - (intOf idx).toNat)
    case atStart => exact ⟨0, by omega, rfl, rfl, Hb.out⟩
    case round =>
      obtain ⟨m, hm, rfl, rfl, hb2⟩ := hrel
      have Hb2 := Lib.hid hb2
      have cg := cellB hb2 hgl Hg.out
      clear hb2
      match m, hm with
      | 0, _ =>
        have hidx := fun w => idx0 (.int .i64 1) (.int .i64 2) w
        go_wp2
        go_quiet (fail)
        go_wp2
        go_roundw
        case rel => exact ⟨1, by omega, rfl, rfl, below_drewN Hb2.out _⟩
        case measure => simp [intOf]
      | 1, _ =>
        have hidx := fun w => idx1 (.int .i64 1) (.int .i64 2) w
        go_wp2
        go_quiet (fail)
        go_wp2
        go_roundw
        case rel => exact ⟨2, by omega, rfl, rfl, below_drewN Hb2.out _⟩
        case measure => simp [intOf]
      | 2, _ =>
        go_wp2
        refine bodyPost_ret (results_none rfl _ _ _) rfl ?_
        exact ⟨rfl, Hb2.out⟩

end Go.Proofs.Ytpbbdnicafifpaa

/-! ## Hpb -/
namespace Go.Proofs.Ytpbbdnicafifpaa
open Go.RowKit
set_option linter.unusedVariables false

theorem drop4_eq (ks : List Key4) (l : Nat) (hl : ks.length = l + 1) : drop4 ks = (ks.set 0 (at4 ks l)).take l := by
  unfold drop4; rw [hl, Nat.add_sub_cancel]

theorem kcells_take (ks : List Key4) : ∀ l, (kcells ks).take (l * 4) = kcells (ks.take l) := by
  induction ks with
  | nil => intro l; simp [kcells]
  | cons k t ih =>
    intro l
    cases l with
    | zero => simp [kcells]
    | succ l =>
      have e : kcells (k :: t) = kc k ++ kcells t := by simp [kcells]
      have e2 : kcells ((k :: t).take (l + 1)) = kc k ++ kcells (t.take l) := by simp [kcells]
      have h4 : (kc k).length = 4 := rfl
      rw [e, e2, List.take_append, List.take_of_length_le (by omega), h4, show (l + 1) * 4 - 4 = l * 4 by omega, ih l]

theorem KeyRow.shorter {w : World} {r cap : Nat} {ks : List Key4} (h : KeyRow w r cap ks) (l : Nat) (hl : l ≤ ks.length) : KeyRow w r cap (ks.take l) := by
  obtain ⟨cur, hb, hs, ht⟩ := h.blk
  have hl2 : (ks.take l).length = l := by rw [List.length_take]; omega
  refine ⟨⟨cur, hb, hs, ?_⟩, by rw [hl2]; have := h.le; omega, h.mx⟩
  rw [hl2, ← kcells_take, ← ht, List.take_take]
  congr 1
  omega

/-- the world in which Pop lets the first key sink -/
abbrev hsunkIn (w1 : World) (r g o l cap : Nat) (x y : Key4) : World :=
  ((((((w1.setCell ⟨r, 0, none⟩ (.int .i64 y.1)).setCell ⟨r, 1, none⟩ (.int .i64 y.2.1)).setCell ⟨r, 2, none⟩ (.int .i64 y.2.2.1)).setCell ⟨r, 3, none⟩ (.int .i64 y.2.2.2)).setCell ⟨g, o, none⟩ (.slice (some ⟨r, 0, none⟩) l cap)).alloc
    (.cells #[.int .i64 x.1, .int .i64 x.2.1, .int .i64 x.2.2.1, .int .i64 x.2.2.2] 112)).drew

/-- what Pop leaves where there is a key -/
def HpPopped (B g o : Nat) (v : Value) (ks : List Key4) (w : World) (e : Ending) (w' : World) : Prop :=
  e = .returned (.tuple #[kv (at4 ks 0), .bool true]) ∧ ∃ v' ks', (at4 ks 0 :: ks').Perm ks ∧ IsHeap ks' ∧ w'.ownsRow B 112 4 v' ks'.length (kcells ks') ∧
    Kept (fun k => v.ownBlock = some k) (w.setCell ⟨g, o, none⟩ v') w' ∧ v'.ownBlock = v.ownBlock

theorem hpop_sink {B g o r l cap q : Nat} {v : Value} {ks : List Key4} {x y : Key4} {ob : Obj} {w1 : World} (h : HpAt B w1 g o v ks) (hv : v = .slice (some ⟨r, 0, none⟩) ks.length cap) (hr : KeyRow w1 r cap ks) (hgr : g ≠ r) (hBr : B ≤ r)
    (hl : ks.length = l + 1) (hy : at4 ks l = y) (hn : ks.length ≤ 100000) (hq : w1.heap[q]? = some ob) (hqg : q ≠ g) (hqr : q ≠ r) :
    Calls Try.prog 107 #[.pointer (some ⟨g, o, none⟩), .int .i64 0] (hsunkIn w1 r g o l cap x y) fun e w' =>
      e = .returned (.tuple #[]) ∧ w'.heap[q]? = some ob ∧ w'.heap[w1.heap.size]? = some (.cells #[.int .i64 x.1, .int .i64 x.2.1, .int .i64 x.2.2.1, .int .i64 x.2.2.2] 112 (0, 0)) ∧
      ∃ v' ks', (at4 ks 0 :: ks').Perm ks ∧ IsHeap ks' ∧ w'.ownsRow B 112 4 v' ks'.length (kcells ks') ∧ Kept (fun k => v.ownBlock = some k) (w1.setCell ⟨g, o, none⟩ v') w' ∧ v'.ownBlock = v.ownBlock := by
  have hgl := h.lt
  have hrl := hr.lt
  have hob : v.ownBlock = some r := by rw [hv]; simp [Value.ownBlock]
  obtain ⟨cur, ty, hb0, hc0⟩ := h.blk
  have hp0 : 0 < ks.length := by omega
  have hrow1 := hr.put 0 y hp0
  unfold put4 at hrow1
  simp only [Nat.zero_mul, Nat.zero_add] at hrow1
  have hrow2 : KeyRow (hsunkIn w1 r g o l cap x y) r cap (ks.set 0 y) := by
    refine hrow1.same ?_
    show ((World.setCell _ ⟨g, o, none⟩ _).alloc _).heap[r]? = _
    rw [Below.heap_alloc _ _ _ (by simp; exact hrl), Below.heap_setCell _ _ _ _ (Ne.symm hgr)]
  have hrow3 : KeyRow (hsunkIn w1 r g o l cap x y) r cap (drop4 ks) := by
    rw [drop4_eq ks l hl, hy]
    exact hrow2.shorter l (by simp; omega)
  have hk4 : Kept (fun k => v.ownBlock = some k) w1 ((((w1.setCell ⟨r, 0, none⟩ (.int .i64 y.1)).setCell ⟨r, 1, none⟩ (.int .i64 y.2.1)).setCell ⟨r, 2, none⟩ (.int .i64 y.2.2.1)).setCell ⟨r, 3, none⟩ (.int .i64 y.2.2.2)) :=
    ((((Kept.refl _ w1).setCell (p := ⟨r, 0, none⟩) hob _).setCell (p := ⟨r, 1, none⟩) hob _).setCell (p := ⟨r, 2, none⟩) hob _).setCell (p := ⟨r, 3, none⟩) hob _
  have hc1 : (((((w1.setCell ⟨r, 0, none⟩ (.int .i64 y.1)).setCell ⟨r, 1, none⟩ (.int .i64 y.2.1)).setCell ⟨r, 2, none⟩ (.int .i64 y.2.2.1)).setCell ⟨r, 3, none⟩ (.int .i64 y.2.2.2))).cell? ⟨g, o, none⟩ = some v := hk4.cell hgl h.ne h.cell
  have hcell : (hsunkIn w1 r g o l cap x y).cell? ⟨g, o, none⟩ = some (.slice (some ⟨r, 0, none⟩) l cap) := by
    have e := World.cell?_setCell_same _ ⟨g, o, none⟩ (.slice (some ⟨r, 0, none⟩) l cap) hc1
    exact (below_cells (((Below.refl _ _).alloc (Nat.le_refl _) _).drew) g o (by simp; exact hgl)).trans e
  have hsz : (hsunkIn w1 r g o l cap x y).heap.size = w1.heap.size + 1 := by
    show ((World.setCell _ ⟨g, o, none⟩ _).alloc _).heap.size = _
    simp
  have hgS : g < (hsunkIn w1 r g o l cap x y).heap.size := by rw [hsz]; omega
  have hqS : (hsunkIn w1 r g o l cap x y).heap[q]? = some ob := by
    show ((World.setCell _ ⟨g, o, none⟩ _).alloc _).heap[q]? = _
    rw [Below.heap_alloc _ _ _ (by simp; exact (Array.getElem?_eq_some_iff.1 hq).1), Below.heap_setCell _ _ _ _ hqg, Below.heap_setCell _ _ _ _ hqr, Below.heap_setCell _ _ _ _ hqr, Below.heap_setCell _ _ _ _ hqr, Below.heap_setCell _ _ _ _ hqr]
    exact hq
  have hnew : (hsunkIn w1 r g o l cap x y).heap[w1.heap.size]? = some (.cells #[.int .i64 x.1, .int .i64 x.2.1, .int .i64 x.2.2.1, .int .i64 x.2.2.2] 112 (0, 0)) := by
    have := heap_alloc_new (((((w1.setCell ⟨r, 0, none⟩ (.int .i64 y.1)).setCell ⟨r, 1, none⟩ (.int .i64 y.2.1)).setCell ⟨r, 2, none⟩ (.int .i64 y.2.2.1)).setCell ⟨r, 3, none⟩ (.int .i64 y.2.2.2)).setCell ⟨g, o, none⟩ (.slice (some ⟨r, 0, none⟩) l cap)) (.cells #[.int .i64 x.1, .int .i64 x.2.1, .int .i64 x.2.2.1, .int .i64 x.2.2.2] 112)
    simp only [World.size_setCell] at this
    exact this
  have hK : Kept (fun k => v.ownBlock = some k) (w1.setCell ⟨g, o, none⟩ (.slice (some ⟨r, 0, none⟩) l cap)) (hsunkIn w1 r g o l cap x y) :=
    ((hk4.setSame (o := o) hb0 h.ne (.slice (some ⟨r, 0, none⟩) l cap)).alloc _).drew
  have hdl : (drop4 ks).length = l := by rw [drop4_len]; omega
  by_cases h0 : l = 0
  · subst h0
    have hd0 : drop4 ks = [] := List.eq_nil_of_length_eq_zero (by omega)
    refine (hsink_empty g o _ cap _ hcell hgS).mono ?_
    rintro e w' ⟨rfl, hb⟩
    have hlt : ∀ k ob, (hsunkIn w1 r g o 0 cap x y).heap[k]? = some ob → w'.heap[k]? = some ob := fun k ob hk => (hb.block k (Array.getElem?_eq_some_iff.1 hk).1).trans hk
    refine ⟨rfl, hlt _ _ hqS, hlt _ _ hnew, .slice (some ⟨r, 0, none⟩) 0 cap, [], ?_, (fun j _ hj => by simp at hj), ?_, hK.trans (Kept.of_below hb), by rw [hob]; rfl⟩
    · have := drop4_perm ks hp0
      rw [hd0] at this
      exact this
    · have h3 := hrow3.below hb
      rw [hd0] at h3
      exact own_of_row h3 hBr
  · have hcell' : (hsunkIn w1 r g o l cap x y).cell? ⟨g, o, none⟩ = some (.slice (some ⟨r, 0, none⟩) (drop4 ks).length cap) := by rw [hdl]; exact hcell
    refine (sink_any g o r cap 0 (drop4 ks) _ hrow3 hcell' hgS hgr (by omega) (drop4_down h.heap) (by omega)).mono ?_
    rintro e w' ⟨rfl, ⟨ks', hp, hh, hr'⟩, hk⟩
    have hlt : ∀ k ob, k ≠ r → (hsunkIn w1 r g o l cap x y).heap[k]? = some ob → w'.heap[k]? = some ob := fun k ob hkr hk' => (hk.block k (Array.getElem?_eq_some_iff.1 hk').1 hkr).trans hk'
    refine ⟨rfl, hlt _ _ hqr hqS, hlt _ _ (by omega) hnew, .slice (some ⟨r, 0, none⟩) l cap, ks', (List.Perm.cons _ hp).trans (drop4_perm ks hp0), hh, ?_, hK.trans2 hk (by rintro i _ rfl; exact hob), by rw [hob]; rfl⟩
    have := own_of_row hr' hBr
    rw [hp.length_eq, hdl] at this
    rw [hp.length_eq, hdl]
    exact this

set_option maxHeartbeats 2000000 in
theorem hpop_some (B g o : Nat) (v : Value) (ks : List Key4) (w : World) (h : HpAt B w g o v ks) (hp : 0 < ks.length) (hn : ks.length ≤ 100000) :
    Calls Try.prog 84 #[.pointer (some ⟨g, o, none⟩)] w (HpPopped B g o v ks w) := by
  obtain ⟨x1, x2, x3, x4, hx⟩ : ∃ x1 x2 x3 x4, at4 ks 0 = (x1, x2, x3, x4) := ⟨_, _, _, _, rfl⟩
  have hT := Lib.hid (fun w (h : HpAt B w g o v ks) => htop_some B g o v ks w h hp x1 x2 x3 x4 hx)
  have hb : Below w.heap.size w (w.alloc (.cells #[.int .i64 0, .int .i64 0, .int .i64 0, .int .i64 0] 112)) := (Below.refl _ _).alloc (Nat.le_refl _) _
  have H0 := Lib.hid (h.below hb)
  have hres0 := Lib.hid (heap_alloc_new w (.cells #[.int .i64 0, .int .i64 0, .int .i64 0, .int .i64 0] 112))
  obtain ⟨r, cap, hv, hr, hgr, hBr⟩ := h.row hp
  have hgl := h.lt
  have hrl := hr.lt
  have Hh := Lib.hid h
  have Hv := Lib.hid hv
  have Hr := Lib.hid hr
  have Hx := Lib.hid hx
  clear h hb hv hr hx
  obtain ⟨y, hy⟩ : ∃ y, at4 ks (ks.length - 1) = y := ⟨_, rfl⟩
  have Hy := Lib.hid hy
  clear hy
  obtain ⟨y1, y2, y3, y4⟩ := y
  obtain ⟨l, hl⟩ : ∃ l, ks.length = l + 1 := ⟨ks.length - 1, by omega⟩
  have Hl := Lib.hid hl
  have Hyl : Hid (at4 ks l = (y1, y2, y3, y4)) := Lib.hid (by have := Hy.out; rw [hl, Nat.add_sub_cancel] at this; exact this)
  go_enter Try.func84, Try.ntmps84
  go_wp2_with fail
  refine (hT.out _ H0.out).mono ?_
  rintro e w1 ⟨rfl, hb1⟩
  have hw1 : w.heap.size < w1.heap.size := by have := hb1.size; simp at this; omega
  have hB1 : Below w.heap.size w w1 := ((Below.refl _ _).alloc (Nat.le_refl _) _).trans (hb1.mono (by simp))
  have hres : w1.heap[w.heap.size]? = some (.cells #[.int .i64 0, .int .i64 0, .int .i64 0, .int .i64 0] 112 (0, 0)) := (hb1.block _ (by simp)).trans hres0.out
  have H1 := Lib.hid (Hh.out.below hB1)
  have HB1 := Lib.hid hB1
  have Hres := Lib.hid hres
  have hr1 := Hr.out.below hB1
  have hgl1 : g < w1.heap.size := by omega
  have hrl1 : r < w1.heap.size := by omega
  have hc := H1.out.cell
  rw [Hv.out, hl] at hc
  have hfz := H1.out.notFrozen
  obtain ⟨c1, c2, c3, c4⟩ := hr1.cell4 0 hp _ Hx.out
  simp only [Nat.zero_mul, Nat.zero_add] at c1 c2 c3 c4
  obtain ⟨d1, d2, d3, d4⟩ := hr1.cell4 (ks.length - 1) (by omega) _ Hy.out
  rw [hl, Nat.add_sub_cancel] at d1 d2 d3 d4
  simp only at d1 d2 d3 d4
  have f1 := hr1.frozen 0
  have f2 := hr1.frozen 1
  have f3 := hr1.frozen 2
  have f4 := hr1.frozen 3
  have hlc : (l : Int) + 1 ≤ (cap : Int) := by have := hr1.le; omega
  have hlb : (l : Int) ≤ 100000 := by omega
  have Hr1 := Lib.hid hr1
  clear hb1 hB1 hres hr1 hl
  go_wp2
  go_region
  go_wp2_with fail
  refine (hpop_sink (x := (x1, x2, x3, x4)) (y := (y1, y2, y3, y4)) (q := w.heap.size) H1.out Hv.out Hr1.out hgr hBr Hl.out Hyl.out hn Hres.out (by omega) (by omega)).mono ?_
  rintro e w2 ⟨rfl, hq2, hx2, hv2⟩
  have Hv2 := Lib.hid hv2
  have a1 : w2.cell? ⟨w1.heap.size, 0, none⟩ = some (.int .i64 x1) := by rw [cell_of_row _ _ 0 _ _ (0, 0) hx2]; rfl
  have a2 : w2.cell? ⟨w1.heap.size, 1, none⟩ = some (.int .i64 x2) := by rw [cell_of_row _ _ 1 _ _ (0, 0) hx2]; rfl
  have a3 : w2.cell? ⟨w1.heap.size, 2, none⟩ = some (.int .i64 x3) := by rw [cell_of_row _ _ 2 _ _ (0, 0) hx2]; rfl
  have a4 : w2.cell? ⟨w1.heap.size, 3, none⟩ = some (.int .i64 x4) := by rw [cell_of_row _ _ 3 _ _ (0, 0) hx2]; rfl
  have b1 : w2.cell? ⟨w.heap.size, 0, none⟩ = some (.int .i64 0) := by rw [cell_of_row _ _ 0 _ _ (0, 0) hq2]; rfl
  have b2 : w2.cell? ⟨w.heap.size, 1, none⟩ = some (.int .i64 0) := by rw [cell_of_row _ _ 1 _ _ (0, 0) hq2]; rfl
  have b3 : w2.cell? ⟨w.heap.size, 2, none⟩ = some (.int .i64 0) := by rw [cell_of_row _ _ 2 _ _ (0, 0) hq2]; rfl
  have b4 : w2.cell? ⟨w.heap.size, 3, none⟩ = some (.int .i64 0) := by rw [cell_of_row _ _ 3 _ _ (0, 0) hq2]; rfl
  have e1 : w2.frozen? ⟨w.heap.size, 0, none⟩ = false := by simp [World.frozen?, hq2]
  have e2 : w2.frozen? ⟨w.heap.size, 1, none⟩ = false := by simp [World.frozen?, hq2]
  have e3 : w2.frozen? ⟨w.heap.size, 2, none⟩ = false := by simp [World.frozen?, hq2]
  have e4 : w2.frozen? ⟨w.heap.size, 3, none⟩ = false := by simp [World.frozen?, hq2]
  have hq2b : w.heap.size < w2.heap.size := (Array.getElem?_eq_some_iff.1 hq2).1
  clear hv2 hx2 hq2 c1 c2 c3 c4 d1 d2 d3 d4 f1 f2 f3 f4 hc hfz
  go_wp2
  refine bodyPost_ret (v := .tuple #[.agg #[.int .i64 x1, .int .i64 x2, .int .i64 x3, .int .i64 x4], .bool true]) (by simp [results, Try.results84, go_sem, b1, b2, b3, b4]) rfl ?_
  obtain ⟨v', ks', hp', hh', ho', hk', hv'⟩ := Hv2.out
  have hkn : Kept (fun k => k = w.heap.size) w2 ((((w2.setCell ⟨w.heap.size, 0, none⟩ (.int .i64 x1)).setCell ⟨w.heap.size, 1, none⟩ (.int .i64 x2)).setCell ⟨w.heap.size, 2, none⟩ (.int .i64 x3)).setCell ⟨w.heap.size, 3, none⟩ (.int .i64 x4)) :=
    ((((Kept.refl (fun k => k = w.heap.size) w2).setCell (p := ⟨w.heap.size, 0, none⟩) rfl _).setCell (p := ⟨w.heap.size, 1, none⟩) rfl _).setCell (p := ⟨w.heap.size, 2, none⟩) rfl _).setCell (p := ⟨w.heap.size, 3, none⟩) rfl _
  obtain ⟨cur, ty, hb0, hc0⟩ := Hh.out.blk
  have hK := ((Kept.of_below (S := fun k => v.ownBlock = some k) HB1.out).setSame (o := o) hb0 Hh.out.ne v').trans hk'
  refine ⟨by rw [Hx.out], v', ks', hp', hh', ownS ho' hkn (fun k e1 e2 => ?_), ?_, hv'⟩
  · subst e2
    rw [hv', Hv.out] at e1
    have : r = w.heap.size := by simpa [Value.ownBlock] using e1
    omega
  · have hz : (w.setCell ⟨g, o, none⟩ v').heap.size ≤ w.heap.size := by rw [World.size_setCell]; exact Nat.le_refl _
    exact (((hK.setNew (p := ⟨w.heap.size, 0, none⟩) hz _).setNew (p := ⟨w.heap.size, 1, none⟩) hz _).setNew (p := ⟨w.heap.size, 2, none⟩) hz _).setNew (p := ⟨w.heap.size, 3, none⟩) hz _

end Go.Proofs.Ytpbbdnicafifpaa
