/-
  What Push, Len and Top of tray's Heap come to: a heap gets one key more; how many keys there are; the least one.
  Conditions: at most 1000 keys.
-/
import Derived.Test.YthpcaamfcmjnmaaSink
import Derived.Deep.AppendLies
import Derived.Deep.RegionLaw
import Derived.OwnWalk
namespace Go.Proofs.Ythpcaamfcmjnmaa
open Go.RowKit

/-- a Heap in block g whose slice v holds the keys ks, in rows from block B on -/
structure HeapAt (B : Nat) (w : World) (g : Nat) (v : Value) (ks : List Key4) : Prop where
  blk : w.heap[g]? = some (.cells #[v] 27 (0, 0))
  own : w.ownsRow B 30 4 v ks.length (kcells ks)
  base : B ≤ g
  heap : IsHeap ks

theorem Try.infoKey : (Try.prog.info? 30).map (fun i => (i.zero, i.size, i.bytes)) = some (some (.agg #[.int .i64 0, .int .i64 0, .int .i64 0, .int .i64 0]), 4, 32) := by kernel_rfl

section
variable {B g : Nat} {w w' : World} {v : Value} {ks : List Key4} {S : Nat → Prop}

theorem HeapAt.lt (h : HeapAt B w g v ks) : g < w.heap.size := (Array.getElem?_eq_some_iff.1 h.blk).1

theorem HeapAt.cell (h : HeapAt B w g v ks) : w.cell? ⟨g, 0, none⟩ = some v := by
  rw [cell_of_row w g 0 _ _ (0, 0) h.blk]; rfl

theorem HeapAt.notFrozen (h : HeapAt B w g v ks) : w.frozen? ⟨g, 0, none⟩ = false := by
  simp [World.frozen?, h.blk]

theorem HeapAt.ne (h : HeapAt B w g v ks) : v.ownBlock ≠ some g := by
  rcases h.own.2 with ⟨rfl, _⟩ | ⟨r, cap, cur, rfl, _, hb, _⟩
  · simp [Value.ownBlock]
  · intro e
    have e2 : r = g := by simpa [Value.ownBlock] using e
    subst e2
    have h1 := h.blk
    rw [hb] at h1
    injection h1 with h1
    injection h1 with _ h2
    revert h2
    decide

theorem HeapAt.form (h : HeapAt B w g v ks) : ∃ a cap, v = .slice a ks.length cap := by
  rcases h.own.2 with ⟨rfl, h0⟩ | ⟨r, cap, cur, rfl, _⟩
  · exact ⟨none, 0, by rw [h0]⟩
  · exact ⟨_, cap, rfl⟩

theorem HeapAt.row (h : HeapAt B w g v ks) (hp : 0 < ks.length) : ∃ r cap, v = .slice (some ⟨r, 0, none⟩) ks.length cap ∧ KeyRow w r cap ks ∧ g ≠ r ∧ B ≤ r := by
  have hne := h.ne
  rcases h.own.2 with ⟨rfl, h0⟩ | ⟨r, cap, cur, rfl, hBr, hb, hl, hm, hs, ht⟩
  · omega
  · refine ⟨r, cap, rfl, ⟨⟨cur, hb, hs, ht⟩, hl, hm⟩, ?_, hBr⟩
    rintro rfl
    simp [Value.ownBlock] at hne

theorem HeapAt.kept (h : HeapAt B w g v ks) (hk : Kept S w w') (hg : ¬ S g) (hv : ∀ r, v.ownBlock = some r → ¬ S r) : HeapAt B w' g v ks := by
  refine ⟨(hk.block g h.lt hg).trans h.blk, ⟨h.own.1, ?_⟩, h.base, h.heap⟩
  rcases h.own.2 with h0 | ⟨r, cap, cur, rfl, hBr, hb, rest⟩
  · exact .inl h0
  · exact .inr ⟨r, cap, cur, rfl, hBr, (hk.block r (Array.getElem?_eq_some_iff.1 hb).1 (hv r (by simp [Value.ownBlock]))).trans hb, rest⟩

theorem HeapAt.below (h : HeapAt B w g v ks) (hb : Below w.heap.size w w') : HeapAt B w' g v ks :=
  h.kept (S := fun _ => False) (Kept.of_below hb) (fun h => h) (fun _ _ h => h)

end

/-- what Push leaves -/
def Pushed (B g : Nat) (v : Value) (ks : List Key4) (x : Key4) (w : World) (e : Ending) (w' : World) : Prop :=
  e = .returned (.tuple #[]) ∧ Kept (fun k => k = g ∨ v.ownBlock = some k) w w' ∧
  ∃ v' ks', ks'.Perm (x :: ks) ∧ HeapAt B w' g v' ks' ∧ (∀ k, v'.ownBlock = some k → v.ownBlock = some k ∨ w.heap.size ≤ k)

theorem new_key (w : World) (o : Obj) {x1 x2 x3 x4 : Int} : ∀ j u, (kc (x1, x2, x3, x4))[j]? = some u → ((w.alloc o).alloc (.cells #[.int .i64 x1, .int .i64 x2, .int .i64 x3, .int .i64 x4] 30)).drew.cell? ((⟨w.heap.size + 1, 0, none⟩ : Addr).add j) = some u := by
  intro j u hj
  have hb : ((w.alloc o).alloc (.cells #[.int .i64 x1, .int .i64 x2, .int .i64 x3, .int .i64 x4] 30)).drew.heap[w.heap.size + 1]? = some (.cells #[.int .i64 x1, .int .i64 x2, .int .i64 x3, .int .i64 x4] 30 (0, 0)) := by
    have := heap_alloc_new (w.alloc o) (.cells #[.int .i64 x1, .int .i64 x2, .int .i64 x3, .int .i64 x4] 30)
    rw [show (w.alloc o).heap.size = w.heap.size + 1 by simp] at this
    exact this
  have e : (⟨w.heap.size + 1, 0, none⟩ : Addr).add j = ⟨w.heap.size + 1, j, none⟩ := by simp [Addr.add]; omega
  rw [e, cell_of_row _ _ j _ _ (0, 0) hb, ← hj]
  simp [kc]

theorem grow_keep {B g : Nat} {v : Value} {ks : List Key4} {w w1 : World} {o1 o2 : Obj} (h : HeapAt B w g v ks) (hg : ((w.alloc o1).alloc o2).drew.grownBy w1 v.ownBlock) :
    w1.cell? ⟨g, 0, none⟩ = some v ∧ w1.frozen? ⟨g, 0, none⟩ = false ∧ Hid (Kept (fun k => k = g ∨ v.ownBlock = some k) w w1) ∧ Hid (w1.heap[g]? = some (.cells #[v] 27 (0, 0))) := by
  have k1 : Kept (fun k => v.ownBlock = some k) w w1 := (((Kept.refl _ w).alloc o1).alloc o2).drew.grown hg (fun _ h => h)
  have hb : w1.heap[g]? = w.heap[g]? := k1.block g h.lt h.ne
  exact ⟨(World.cell?_of_block (a := ⟨g, 0, none⟩) hb).trans h.cell, (World.frozen?_of_block (a := ⟨g, 0, none⟩) hb).trans h.notFrozen, Lib.hid (k1.mono fun _ _ h => .inr h), Lib.hid (hb.trans h.blk)⟩

theorem row_of_own {B gg n cap : Nat} {w : World} {ks : List Key4} (hn : n = ks.length) (h : w.ownsRow B 30 4 (.slice (some ⟨gg, 0, none⟩) n cap) n (kcells ks)) : KeyRow w gg cap ks ∧ B ≤ gg := by
  subst hn
  rcases h.2 with ⟨h', _⟩ | ⟨r, c, cur, h', hBr, hb, hl, hm, hs, ht⟩
  · simp at h'
  · simp only [Value.slice.injEq, Option.some.injEq, Addr.mk.injEq, and_true, true_and] at h'
    obtain ⟨rfl, rfl⟩ := h'
    exact ⟨⟨⟨cur, hb, hs, ht⟩, hl, hm⟩, hBr⟩

theorem own_of_row {B r cap : Nat} {w : World} {ks : List Key4} (h : KeyRow w r cap ks) (hB : B ≤ r) : w.ownsRow B 30 4 (.slice (some ⟨r, 0, none⟩) ks.length cap) ks.length (kcells ks) := by
  obtain ⟨cur, hb, hs, ht⟩ := h.blk
  exact ⟨kcells_len ks, .inr ⟨r, cap, cur, rfl, hB, hb, h.le, h.mx, hs, ht⟩⟩

theorem Kept.trans2 {S T : Nat → Prop} {w w' w'' : World} (h : Kept S w w') (k : Kept T w' w'') (hT : ∀ i, i < w.heap.size → T i → S i) : Kept S w w'' :=
  ⟨k.os.trans h.os, k.tape.trans h.tape, k.output.trans h.output, Nat.le_trans h.size k.size, fun i hi hs => (k.block i (Nat.lt_of_lt_of_le hi h.size) (fun ht => hs (hT i hi ht))).trans (h.block i hi hs)⟩

theorem push_rise {B g gg cap H : Nat} {v : Value} {ks : List Key4} {x : Key4} {w w1 : World} (h : HeapAt B w g v ks) (hn : ks.length ≤ 1000) (hH : w.heap.size ≤ H)
    (hown1 : w1.ownsRow B 30 4 (.slice (some ⟨gg, 0, none⟩) (ks.length + 1) cap) (ks.length + 1) (kcells ks ++ kc x)) (hat : v.ownBlock = some gg ∨ gg = H)
    (q1 : w1.cell? ⟨g, 0, none⟩ = some v) (q3 : Kept (fun k => k = g ∨ v.ownBlock = some k) w w1) (q4 : w1.heap[g]? = some (.cells #[v] 27 (0, 0))) (hgg : g ≠ gg) :
    Calls Try.prog 23 #[.pointer (some ⟨g, 0, none⟩), .int .i64 ks.length] (w1.setCell ⟨g, 0, none⟩ (.slice (some ⟨gg, 0, none⟩) (ks.length + 1) cap)) (Pushed B g v ks x w) := by
  have hl : (ks ++ [x]).length = ks.length + 1 := by simp
  rw [← kcells_snoc] at hown1
  obtain ⟨hrow, hBg⟩ := row_of_own hl.symm hown1
  have hrow2 : KeyRow (w1.setCell ⟨g, 0, none⟩ (.slice (some ⟨gg, 0, none⟩) (ks.length + 1) cap)) gg cap (ks ++ [x]) :=
    hrow.same (Below.heap_setCell _ _ _ _ (Ne.symm hgg))
  have hcell := World.cell?_setCell_same w1 ⟨g, 0, none⟩ (.slice (some ⟨gg, 0, none⟩) (ks.length + 1) cap) q1
  have hblk : (w1.setCell ⟨g, 0, none⟩ (.slice (some ⟨gg, 0, none⟩) (ks.length + 1) cap)).heap[g]? = some (.cells #[.slice (some ⟨gg, 0, none⟩) (ks.length + 1) cap] 27 (0, 0)) := by
    rw [Joins.block_setCell (i := 0) q4]; rfl
  rw [← hl] at hcell hblk hrow2 ⊢
  refine (rise_any g gg cap ks.length (ks ++ [x]) _ hrow2 hcell (Array.getElem?_eq_some_iff.1 hblk).1 hgg (by omega) (h.heap.push x) (by omega)).mono ?_
  rintro e w' ⟨rfl, ⟨ks', hp, hh, hr⟩, hk⟩
  have hK := (q3.setCell (p := ⟨g, 0, none⟩) (.inl rfl) (.slice (some ⟨gg, 0, none⟩) (ks ++ [x]).length cap))
  refine ⟨rfl, hK.trans2 hk ?_, _, ks', hp.trans (List.perm_append_singleton x ks), ⟨(hk.block g (Array.getElem?_eq_some_iff.1 hblk).1 hgg).trans hblk, ?_, h.base, hh⟩, ?_⟩
  · rintro i hi rfl
    rcases hat with e | e
    · exact .inr e
    · omega
  · have := own_of_row hr hBg
    rw [hp.length_eq] at this
    rw [hp.length_eq]
    exact this
  · intro k hk'
    have : gg = k := by simpa [Value.ownBlock] using hk'
    subst this
    rcases hat with e | e
    · exact .inl e
    · exact .inr (by omega)

set_option maxHeartbeats 2000000 in
theorem push_any (B g : Nat) (v : Value) (ks : List Key4) (x1 x2 x3 x4 : Int) (w : World) (h : HeapAt B w g v ks) (hn : ks.length ≤ 1000) (hB : B ≤ w.heap.size) :
    Calls Try.prog 10 #[.pointer (some ⟨g, 0, none⟩), .agg #[.int .i64 x1, .int .i64 x2, .int .i64 x3, .int .i64 x4]] w (Pushed B g v ks (x1, x2, x3, x4) w) := by
  obtain ⟨i0, hi0, hz0, hz1, hz2⟩ := info_parts Try.infoKey
  have hgl := h.lt
  have hc := h.cell
  have hf := h.notFrozen
  have H := Lib.hid h
  clear h
  go_enter Try.func10, Try.ntmps10
  go_wp2
  go_region_law (refine step_append_lies _ (by rfl) (.tmp 10) (.tmp 12) 22 (by rfl) B 30 i0 _ 4 32 Try.underlying22 hi0 hz0 hz1 hz2 rfl (by omega) v ks.length (kcells ks) (by rfl) (((H.out.own.alloc _).alloc _).drew) ⟨w.heap.size + 1, 0, none⟩ 1 1 (kc (x1, x2, x3, x4)) (by rfl) (by rfl) (new_key _ _) (by simp [kc, Value.oneCell']) (by omega) (by unfold maxLen; omega) (by omega) (by simp; omega) (w.heap.size + 2) (by simp) ?_; intro gg cap w1 hown1 hgrow hat hlt; obtain ⟨q1, q2, q3, q4⟩ := grow_keep H.out hgrow; clear hgrow)
  all_goals
    have hne := H.out.ne
    have hgg : g ≠ gg := by
      rcases hat with e | e
      · intro h; subst h; exact hne e
      · omega
    have Hat := Lib.hid hat
    have Hown1 := Lib.hid hown1
    clear hat hown1 hne hc hf
    go_wp2_with fail
    refine (push_rise H.out hn (by omega) Hown1.out Hat.out q1 q3.out q4.out hgg).mono ?_
    rintro e w' ⟨rfl, hk, hv⟩
    have Hk := Lib.hid hk
    have Hv := Lib.hid hv
    clear hk hv
    go_wp2
    go_end0
    exact ⟨rfl, Hk.out, Hv.out⟩

theorem len_any (B g : Nat) (v : Value) (ks : List Key4) (w : World) (h : HeapAt B w g v ks) :
    Calls Try.prog 14 #[.pointer (some ⟨g, 0, none⟩)] w fun e w' => e = .returned (.int .i64 ks.length) ∧ w = w' := by
  have hc := h.cell
  obtain ⟨a, cap, hv⟩ := h.form
  subst hv
  clear h
  go_enter Try.func14, Try.ntmps14
  go_wp2
  go_ret
  exact ⟨rfl, rfl⟩

theorem len_nil (w : World) : Calls Try.prog 14 #[.pointer none] w fun e w' => e = .returned (.int .i64 0) ∧ w = w' := by
  go_enter Try.func14, Try.ntmps14
  go_wp2
  go_ret
  exact ⟨rfl, rfl⟩

end Go.Proofs.Ythpcaamfcmjnmaa
