/-
  A Ring of ints in memory; what NewRing, Len and Pop of tray's Ring come to.
  Conditions: none beyond each theorem's own.
-/
import Derived.Test.YtgombejncjcjhaaWake
import Derived.Laws.CopyOwn
import Derived.StillTailTactics
namespace Go.Proofs.Ytgombejncjcjhaa
open Go.RowKit

/-- block g holds just these ints, and may be written -/
def IRow (w : World) (g : Nat) (xs : List Int) : Prop := w.heap[g]? = some (.cells (xs.map (Value.int .i64)).toArray 3 (0, 0))

theorem IRow.lt {w : World} {g : Nat} {xs : List Int} (h : IRow w g xs) : g < w.heap.size := (Array.getElem?_eq_some_iff.1 h).1
theorem IRow.cell {w : World} {g : Nat} {xs : List Int} (h : IRow w g xs) (i : Nat) (hi : i < xs.length) : w.cell? ⟨g, i, none⟩ = some (.int .i64 (xs.getD i 0)) := by
  rw [cell_of_row w g i _ _ (0, 0) h]; simp [hi]
theorem IRow.notFrozen {w : World} {g : Nat} {xs : List Int} (h : IRow w g xs) (i : Nat) : w.frozen? ⟨g, i, none⟩ = false := by
  unfold IRow at h; simp [World.frozen?, h]
theorem IRow.put {w : World} {g : Nat} {xs : List Int} (h : IRow w g xs) (i : Nat) (v : Int) : IRow (w.setCell ⟨g, i, none⟩ (.int .i64 v)) g (xs.set i v) := by
  have := Joins.block_setCell (i := i) h (.int .i64 v)
  unfold IRow
  rw [this]
  simp [List.map_set]

/-- a Ring in block g: its slots ss, the slot of the oldest f, how many c, at most m -/
structure RingAt (w : World) (g : Nat) (A : Option Addr) (ss : List Int) (f c m : Nat) : Prop where
  blk : w.heap[g]? = some (.cells #[.slice A ss.length ss.length, .int .i64 f, .int .i64 c, .int .i64 m] 65 (0, 0))
  row : (ss = [] ∧ A = none) ∨ ∃ r, A = some ⟨r, 0, none⟩ ∧ IRow w r ss ∧ r ≠ g
  hf : f < ss.length ∨ (ss.length = 0 ∧ f = 0)
  hc : c ≤ ss.length
  hm : ss.length ≤ m

/-- what a Ring holds, the oldest first -/
def Holds (ss : List Int) (f : Nat) (ls : List Int) : Prop := ∀ i, i < ls.length → ss.getD ((f + i) % ss.length) 0 = ls.getD i 0

/-- which blocks a Ring uses -/
def RingUses (g : Nat) (A : Option Addr) (k : Nat) : Prop := k = g ∨ ∃ a, A = some a ∧ a.block = k

section
variable {w w' : World} {g : Nat} {A : Option Addr} {ss : List Int} {f c m : Nat}

theorem RingAt.lt (h : RingAt w g A ss f c m) : g < w.heap.size := (Array.getElem?_eq_some_iff.1 h.blk).1
theorem RingAt.cells (h : RingAt w g A ss f c m) : w.cell? ⟨g, 0, none⟩ = some (.slice A ss.length ss.length) ∧ w.cell? ⟨g, 1, none⟩ = some (.int .i64 f) ∧ w.cell? ⟨g, 2, none⟩ = some (.int .i64 c) ∧ w.cell? ⟨g, 3, none⟩ = some (.int .i64 m) := by
  refine ⟨?_, ?_, ?_, ?_⟩ <;> (rw [cell_of_row _ _ _ _ _ (0, 0) h.blk]; rfl)
theorem RingAt.notFrozen (h : RingAt w g A ss f c m) (i : Nat) : w.frozen? ⟨g, i, none⟩ = false := by simp [World.frozen?, h.blk]

theorem RingAt.kept {S : Nat → Prop} (h : RingAt w g A ss f c m) (hk : Kept S w w') (hs : ∀ k, RingUses g A k → ¬ S k) : RingAt w' g A ss f c m := by
  refine ⟨(hk.block g h.lt (hs g (.inl rfl))).trans h.blk, ?_, h.hf, h.hc, h.hm⟩
  rcases h.row with h0 | ⟨r, hA, hr, hg⟩
  · exact .inl h0
  · exact .inr ⟨r, hA, (hk.block r hr.lt (hs r (.inr ⟨_, hA, rfl⟩))).trans hr, hg⟩

theorem RingAt.below (h : RingAt w g A ss f c m) (hb : Below w.heap.size w w') : RingAt w' g A ss f c m :=
  h.kept (S := fun _ => False) (Kept.of_below hb) (fun _ _ h => h)
end

theorem ring_new (n : Nat) (w : World) (hn : n ≤ 65536) :
    Calls Try.prog 35 #[.int .i64 n] w fun e w' => e = .returned (.pointer (some ⟨w.heap.size, 0, none⟩)) ∧ RingAt w' w.heap.size none [] 0 0 n ∧ Below w.heap.size w w' := by
  have h1 : (n : Int) ≤ 65536 := by omega
  have h2 : (0 : Int) ≤ (n : Int) := by omega
  go_enter Try.func35, Try.ntmps35
  go_wp2
  go_ret
  refine ⟨rfl, ⟨?_, .inl ⟨rfl, rfl⟩, .inr ⟨rfl, rfl⟩, Nat.le_refl _, by simp⟩, (Below.refl _ _).alloc (Nat.le_refl _) _⟩
  exact heap_alloc_new w _

theorem ring_len (g : Nat) (A : Option Addr) (ss : List Int) (f c m : Nat) (w : World) (h : RingAt w g A ss f c m) :
    Calls Try.prog 38 #[.pointer (some ⟨g, 0, none⟩)] w fun e w' => e = .returned (.int .i64 c) ∧ w = w' := by
  obtain ⟨c0, c1, c2, c3⟩ := h.cells
  clear h
  go_enter Try.func38, Try.ntmps38
  go_wp2
  go_ret
  exact ⟨rfl, rfl⟩

theorem ring_pop_empty (g : Nat) (A : Option Addr) (ss : List Int) (f m : Nat) (w : World) (h : RingAt w g A ss f 0 m) :
    Calls Try.prog 37 #[.pointer (some ⟨g, 0, none⟩)] w fun e w' => e = .returned (.tuple #[.int .i64 0, .bool false]) ∧ w = w' := by
  have hL := Lib.hid (ring_len g A ss f 0 m w h)
  clear h
  go_enter Try.func37, Try.ntmps37
  go_wp2_with fail
  refine hL.out.mono ?_
  rintro e w' ⟨rfl, rfl⟩
  go_wp2
  go_ret2
  exact ⟨rfl, rfl⟩

theorem ring_after_pop {w : World} {g r f f' c m k : Nat} {ss : List Int} (h : RingAt w g (some ⟨r, 0, none⟩) ss f c m) (hr : IRow w r ss) (hgr : r ≠ g) (hc : 0 < c) (hf' : f' = (f + 1) % ss.length) :
    RingAt ((((w.drewN k).setCell ⟨r, f, none⟩ (.int .i64 0)).setCell ⟨g, 1, none⟩ (.int .i64 f')).setCell ⟨g, 2, none⟩ (.int .i64 ((c : Int) - 1))).drew g (some ⟨r, 0, none⟩) (ss.set f 0) f' (c - 1) m := by
  have hn : 0 < ss.length := by have := h.hc; omega
  refine ⟨?_, .inr ⟨r, rfl, ?_, hgr⟩, .inl (by rw [List.length_set, hf']; exact Nat.mod_lt _ hn), by rw [List.length_set]; have := h.hc; omega, by rw [List.length_set]; exact h.hm⟩
  · have h1 : ((w.drewN k).setCell ⟨r, f, none⟩ (.int .i64 0)).heap[g]? = some (.cells #[.slice (some ⟨r, 0, none⟩) ss.length ss.length, .int .i64 f, .int .i64 c, .int .i64 m] 65 (0, 0)) :=
      (Below.heap_setCell _ _ _ _ (Ne.symm hgr)).trans h.blk
    have h2 := Joins.block_setCell (i := 2) (Joins.block_setCell (i := 1) h1 (.int .i64 f')) (.int .i64 ((c : Int) - 1))
    have e : ((c : Int) - 1) = ((c - 1 : Nat) : Int) := by omega
    rw [List.length_set]
    show (World.setCell _ _ _).heap[g]? = _
    rw [h2, e]
    rfl
  · have h1 := hr.put f 0
    show IRow (World.setCell _ _ _) r _
    unfold IRow
    rw [Below.heap_setCell _ _ _ _ hgr, Below.heap_setCell _ _ _ _ hgr]
    exact h1

set_option maxHeartbeats 1000000 in
theorem ring_pop (g r : Nat) (ss : List Int) (f c m : Nat) (w : World) (h : RingAt w g (some ⟨r, 0, none⟩) ss f c m) (hc : 0 < c) (hm : m ≤ 65536) (x : Int) (hx : ss.getD f 0 = x) :
    Calls Try.prog 37 #[.pointer (some ⟨g, 0, none⟩)] w fun e w' => e = .returned (.tuple #[.int .i64 x, .bool true]) ∧ RingAt w' g (some ⟨r, 0, none⟩) (ss.set f 0) ((f + 1) % ss.length) (c - 1) m ∧ Kept (RingUses g (some ⟨r, 0, none⟩)) w w' := by
  have hL := Lib.hid (ring_len g _ ss f c m w h)
  obtain ⟨c0, c1, c2, c3⟩ := h.cells
  obtain ⟨hr, hgr⟩ : IRow w r ss ∧ r ≠ g := by
    rcases h.row with ⟨_, h0⟩ | ⟨r', h0, h1, h2⟩
    · cases h0
    · have : r' = r := by simpa using h0.symm
      subst this; exact ⟨h1, h2⟩
  have hfn : f < ss.length := by have := h.hf; have := h.hc; omega
  have hnm := h.hm
  have hcn := h.hc
  have g0 := h.notFrozen 0
  have g1 := h.notFrozen 1
  have g2 := h.notFrozen 2
  have rc := hr.cell f hfn
  rw [hx] at rc
  have rf := hr.notFrozen f
  have H := Lib.hid h
  have Hr := Lib.hid hr
  have hgl := h.lt
  have hrl := hr.lt
  clear h hr hx
  have hce : ((c : Int) == 0) = false := by rw [beq_eq_false_iff_ne]; omega
  obtain ⟨n, hn⟩ : ∃ n, n = ss.length := ⟨_, rfl⟩
  rw [← hn] at hfn hnm hcn c0 ⊢
  have Hn := Lib.hid hn
  clear hn
  obtain ⟨f', hf'⟩ : ∃ f', f' = (f + 1) % n := ⟨_, rfl⟩
  have hfi : ((f : Int) + 1) % (n : Int) = (f' : Int) := by rw [hf', Int.natCast_emod, Int.natCast_add]; rfl
  have i1 : (0 : Int) ≤ (f : Int) := by omega
  have i2 : (f : Int) < (n : Int) := by omega
  have Hf := Lib.hid hf'
  clear hf'
  go_enter Try.func37, Try.ntmps37
  go_wp2_with fail
  refine hL.out.mono ?_
  rintro e w' ⟨rfl, rfl⟩
  go_wp2
  go_quiet (fail)
  go_wp2
  go_region
  go_wp2
  go_region
  go_wp2
  go_ret2
  refine ⟨rfl, ?_, ?_⟩
  · rw [← Hf.out]
    exact ring_after_pop H.out Hr.out hgr hc (by rw [Hf.out, Hn.out])
  · exact (((((Kept.refl _ w).drewN _).setCell (p := ⟨r, f, none⟩) (.inr ⟨_, rfl, rfl⟩) _).setCell (p := ⟨g, 1, none⟩) (.inl rfl) _).setCell (p := ⟨g, 2, none⟩) (.inl rfl) _).drew

end Go.Proofs.Ytgombejncjcjhaa
