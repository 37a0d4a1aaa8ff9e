/-
  What Pop of tray's Heap comes to: the least key goes, the others stay; a zero key and false where there is none.
  Conditions: at most 1000 keys.
-/
import Derived.Test.YthpcaamfcmjnmaaPop
namespace Go.Proofs.Ythpcaamfcmjnmaa
open Go.RowKit

/-- what Pop leaves where there is a key -/
def Popped (B g : Nat) (v : Value) (ks : List Key4) (w : World) (e : Ending) (w' : World) : Prop :=
  e = .returned (.tuple #[kv (at4 ks 0), .bool true]) ∧ Kept (fun k => k = g ∨ v.ownBlock = some k) w w' ∧
  ∃ v' ks', (at4 ks 0 :: ks').Perm ks ∧ HeapAt B w' g v' ks' ∧ (∀ k, v'.ownBlock = some k → v.ownBlock = some k)

theorem Kept.setNew {S : Nat → Prop} {w w' : World} (h : Kept S w w') {p : Addr} (hp : w.heap.size ≤ p.block) (v : Value) : Kept S w (w'.setCell p v) :=
  ⟨h.os, h.tape, h.output, by rw [World.size_setCell]; exact h.size, fun k hk hs => (Below.heap_setCell _ _ _ _ (by omega)).trans (h.block k hk hs)⟩

theorem drop4_eq (ks : List Key4) (l : Nat) (hl : ks.length = l + 1) : drop4 ks = (ks.set 0 (at4 ks l)).take l := by
  unfold drop4; rw [hl, Nat.add_sub_cancel]

theorem kcells_take (ks : List Key4) : ∀ l, (kcells ks).take (l * 4) = kcells (ks.take l) := by
  induction ks with
  | nil => intro l; simp [kcells]
  | cons k t ih =>
    intro l
    cases l with
    | zero => simp [kcells]
    | succ l =>
      have e : kcells (k :: t) = kc k ++ kcells t := by simp [kcells]
      have e2 : kcells ((k :: t).take (l + 1)) = kc k ++ kcells (t.take l) := by simp [kcells]
      have h4 : (kc k).length = 4 := rfl
      rw [e, e2, List.take_append, List.take_of_length_le (by omega), h4, show (l + 1) * 4 - 4 = l * 4 by omega, ih l]

theorem KeyRow.shorter {w : World} {r cap : Nat} {ks : List Key4} (h : KeyRow w r cap ks) (l : Nat) (hl : l ≤ ks.length) : KeyRow w r cap (ks.take l) := by
  obtain ⟨cur, hb, hs, ht⟩ := h.blk
  have hl2 : (ks.take l).length = l := by rw [List.length_take]; omega
  refine ⟨⟨cur, hb, hs, ?_⟩, by rw [hl2]; have := h.le; omega, h.mx⟩
  rw [hl2, ← kcells_take, ← ht, List.take_take]
  congr 1
  omega

/-- the world in which Pop lets the first key sink -/
abbrev sunkIn (w1 : World) (r g l cap : Nat) (x y : Key4) : World :=
  ((((((w1.setCell ⟨r, 0, none⟩ (.int .i64 y.1)).setCell ⟨r, 1, none⟩ (.int .i64 y.2.1)).setCell ⟨r, 2, none⟩ (.int .i64 y.2.2.1)).setCell ⟨r, 3, none⟩ (.int .i64 y.2.2.2)).setCell ⟨g, 0, none⟩ (.slice (some ⟨r, 0, none⟩) l cap)).alloc
    (.cells #[.int .i64 x.1, .int .i64 x.2.1, .int .i64 x.2.2.1, .int .i64 x.2.2.2] 30)).drew

theorem pop_sink {B g r l cap q : Nat} {v : Value} {ks : List Key4} {x y : Key4} {o : Obj} {w1 : World} (h : HeapAt B w1 g v ks) (hv : v = .slice (some ⟨r, 0, none⟩) ks.length cap) (hr : KeyRow w1 r cap ks) (hgr : g ≠ r) (hBr : B ≤ r)
    (hl : ks.length = l + 1) (hy : at4 ks l = y) (hn : ks.length ≤ 1000) (hq : w1.heap[q]? = some o) (hqg : q ≠ g) (hqr : q ≠ r) :
    Calls Try.prog 24 #[.pointer (some ⟨g, 0, none⟩), .int .i64 0] (sunkIn w1 r g l cap x y) fun e w' =>
      e = .returned (.tuple #[]) ∧ w'.heap[q]? = some o ∧ w'.heap[w1.heap.size]? = some (.cells #[.int .i64 x.1, .int .i64 x.2.1, .int .i64 x.2.2.1, .int .i64 x.2.2.2] 30 (0, 0)) ∧
      Kept (fun k => k = g ∨ v.ownBlock = some k) w1 w' ∧ ∃ v' ks', (at4 ks 0 :: ks').Perm ks ∧ HeapAt B w' g v' ks' ∧ (∀ k, v'.ownBlock = some k → v.ownBlock = some k) := by
  have hgl := h.lt
  have hrl := hr.lt
  have hob : v.ownBlock = some r := by rw [hv]; simp [Value.ownBlock]
  -- the row behind the store
  have hp0 : 0 < ks.length := by omega
  have hrow1 := hr.put 0 y hp0
  unfold put4 at hrow1
  simp only [Nat.zero_mul, Nat.zero_add] at hrow1
  have hrow2 : KeyRow (sunkIn w1 r g l cap x y) r cap (ks.set 0 y) := by
    refine hrow1.same ?_
    show ((World.setCell _ ⟨g, 0, none⟩ _).alloc _).heap[r]? = _
    rw [Below.heap_alloc _ _ _ (by simp; exact hrl), Below.heap_setCell _ _ _ _ (Ne.symm hgr)]
  have hrow3 : KeyRow (sunkIn w1 r g l cap x y) r cap (drop4 ks) := by
    rw [drop4_eq ks l hl, hy]
    exact hrow2.shorter l (by simp; omega)
  have hblk1 : (((((w1.setCell ⟨r, 0, none⟩ (.int .i64 y.1)).setCell ⟨r, 1, none⟩ (.int .i64 y.2.1)).setCell ⟨r, 2, none⟩ (.int .i64 y.2.2.1)).setCell ⟨r, 3, none⟩ (.int .i64 y.2.2.2))).heap[g]? = some (.cells #[v] 27 (0, 0)) := by
    rw [Below.heap_setCell _ _ _ _ hgr, Below.heap_setCell _ _ _ _ hgr, Below.heap_setCell _ _ _ _ hgr, Below.heap_setCell _ _ _ _ hgr]
    exact h.blk
  have hblk : (sunkIn w1 r g l cap x y).heap[g]? = some (.cells #[.slice (some ⟨r, 0, none⟩) l cap] 27 (0, 0)) := by
    show ((World.setCell _ ⟨g, 0, none⟩ _).alloc _).heap[g]? = _
    rw [Below.heap_alloc _ _ _ (by simp; exact hgl), Joins.block_setCell (i := 0) hblk1]; rfl
  have hcell : (sunkIn w1 r g l cap x y).cell? ⟨g, 0, none⟩ = some (.slice (some ⟨r, 0, none⟩) l cap) := by
    rw [cell_of_row _ g 0 _ _ (0, 0) hblk]; rfl
  have hsz : (sunkIn w1 r g l cap x y).heap.size = w1.heap.size + 1 := by
    show ((World.setCell _ ⟨g, 0, none⟩ _).alloc _).heap.size = _
    simp
  have hgS : g < (sunkIn w1 r g l cap x y).heap.size := by rw [hsz]; omega
  have hqS : (sunkIn w1 r g l cap x y).heap[q]? = some o := by
    show ((World.setCell _ ⟨g, 0, none⟩ _).alloc _).heap[q]? = _
    rw [Below.heap_alloc _ _ _ (by simp; exact (Array.getElem?_eq_some_iff.1 hq).1), Below.heap_setCell _ _ _ _ hqg, Below.heap_setCell _ _ _ _ hqr, Below.heap_setCell _ _ _ _ hqr, Below.heap_setCell _ _ _ _ hqr, Below.heap_setCell _ _ _ _ hqr]
    exact hq
  have hnew : (sunkIn w1 r g l cap x y).heap[w1.heap.size]? = some (.cells #[.int .i64 x.1, .int .i64 x.2.1, .int .i64 x.2.2.1, .int .i64 x.2.2.2] 30 (0, 0)) := by
    have := heap_alloc_new (((((w1.setCell ⟨r, 0, none⟩ (.int .i64 y.1)).setCell ⟨r, 1, none⟩ (.int .i64 y.2.1)).setCell ⟨r, 2, none⟩ (.int .i64 y.2.2.1)).setCell ⟨r, 3, none⟩ (.int .i64 y.2.2.2)).setCell ⟨g, 0, none⟩ (.slice (some ⟨r, 0, none⟩) l cap)) (.cells #[.int .i64 x.1, .int .i64 x.2.1, .int .i64 x.2.2.1, .int .i64 x.2.2.2] 30)
    simp only [World.size_setCell] at this
    exact this
  have hK : Kept (fun k => k = g ∨ v.ownBlock = some k) w1 (sunkIn w1 r g l cap x y) :=
    (((((((Kept.refl _ w1).setCell (p := ⟨r, 0, none⟩) (.inr hob) _).setCell (p := ⟨r, 1, none⟩) (.inr hob) _).setCell (p := ⟨r, 2, none⟩) (.inr hob) _).setCell (p := ⟨r, 3, none⟩) (.inr hob) _).setCell (p := ⟨g, 0, none⟩) (.inl rfl) _).alloc _).drew
  have hdl : (drop4 ks).length = l := by rw [drop4_len]; omega
  by_cases h0 : l = 0
  · subst h0
    have hd0 : drop4 ks = [] := List.eq_nil_of_length_eq_zero (by omega)
    refine (sink_empty g _ cap _ hcell hgS).mono ?_
    rintro e w' ⟨rfl, hb⟩
    have hlt : ∀ k ob, (sunkIn w1 r g 0 cap x y).heap[k]? = some ob → w'.heap[k]? = some ob := fun k ob hk => (hb.block k (Array.getElem?_eq_some_iff.1 hk).1).trans hk
    refine ⟨rfl, hlt _ _ hqS, hlt _ _ hnew, hK.trans (Kept.of_below hb), _, [], ?_, ⟨hlt _ _ hblk, ?_, h.base, fun j _ hj => by simp at hj⟩, ?_⟩
    · have := drop4_perm ks hp0
      rw [hd0] at this
      exact this
    · have h3 := hrow3.below hb
      rw [hd0] at h3
      exact own_of_row h3 hBr
    · intro k hk
      rw [hob]; simpa [Value.ownBlock] using hk
  · have hcell' : (sunkIn w1 r g l cap x y).cell? ⟨g, 0, none⟩ = some (.slice (some ⟨r, 0, none⟩) (drop4 ks).length cap) := by rw [hdl]; exact hcell
    refine (sink_any g r cap 0 (drop4 ks) _ hrow3 hcell' hgS hgr (by omega) (drop4_down h.heap) (by omega)).mono ?_
    rintro e w' ⟨rfl, ⟨ks', hp, hh, hr'⟩, hk⟩
    have hlt : ∀ k ob, k ≠ r → (sunkIn w1 r g l cap x y).heap[k]? = some ob → w'.heap[k]? = some ob := fun k ob hkr hk' => (hk.block k (Array.getElem?_eq_some_iff.1 hk').1 hkr).trans hk'
    refine ⟨rfl, hlt _ _ hqr hqS, hlt _ _ (by omega) hnew, hK.trans2 hk (by rintro i _ rfl; exact .inr hob), _, ks', (List.Perm.cons _ hp).trans (drop4_perm ks hp0), ⟨hlt _ _ hgr hblk, ?_, h.base, hh⟩, ?_⟩
    · have := own_of_row hr' hBr
      rw [hp.length_eq, hdl] at this
      rw [hp.length_eq, hdl]
      exact this
    · intro k hk
      rw [hob]; simpa [Value.ownBlock] using hk

set_option maxHeartbeats 2000000 in
theorem pop_some (B g : Nat) (v : Value) (ks : List Key4) (w : World) (h : HeapAt B w g v ks) (hp : 0 < ks.length) (hn : ks.length ≤ 1000) :
    Calls Try.prog 13 #[.pointer (some ⟨g, 0, none⟩)] w (Popped B g v ks w) := by
  obtain ⟨x1, x2, x3, x4, hx⟩ : ∃ x1 x2 x3 x4, at4 ks 0 = (x1, x2, x3, x4) := ⟨_, _, _, _, rfl⟩
  have hT := Lib.hid (fun w (h : HeapAt B w g v ks) => top_some B g v ks w h hp x1 x2 x3 x4 hx)
  have hb : Below w.heap.size w (w.alloc (.cells #[.int .i64 0, .int .i64 0, .int .i64 0, .int .i64 0] 30)) := (Below.refl _ _).alloc (Nat.le_refl _) _
  have H0 := Lib.hid (h.below hb)
  have hres0 := Lib.hid (heap_alloc_new w (.cells #[.int .i64 0, .int .i64 0, .int .i64 0, .int .i64 0] 30))
  obtain ⟨r, cap, hv, hr, hgr, hBr⟩ := h.row hp
  have hgl := h.lt
  have hrl := hr.lt
  have Hh := Lib.hid h
  have Hv := Lib.hid hv
  have Hr := Lib.hid hr
  have Hx := Lib.hid hx
  clear h hb hv hr hx
  obtain ⟨y, hy⟩ : ∃ y, at4 ks (ks.length - 1) = y := ⟨_, rfl⟩
  have Hy := Lib.hid hy
  clear hy
  obtain ⟨y1, y2, y3, y4⟩ := y
  obtain ⟨l, hl⟩ : ∃ l, ks.length = l + 1 := ⟨ks.length - 1, by omega⟩
  have Hl := Lib.hid hl
  have Hyl : Hid (at4 ks l = (y1, y2, y3, y4)) := Lib.hid (by have := Hy.out; rw [hl, Nat.add_sub_cancel] at this; exact this)
  go_enter Try.func13, Try.ntmps13
  go_wp2_with fail
  refine (hT.out _ H0.out).mono ?_
  rintro e w1 ⟨rfl, hb1⟩
  have hw1 : w.heap.size < w1.heap.size := by have := hb1.size; simp at this; omega
  have hB1 : Below w.heap.size w w1 := ((Below.refl _ _).alloc (Nat.le_refl _) _).trans (hb1.mono (by simp))
  have hres : w1.heap[w.heap.size]? = some (.cells #[.int .i64 0, .int .i64 0, .int .i64 0, .int .i64 0] 30 (0, 0)) := (hb1.block _ (by simp)).trans hres0.out
  have H1 := Lib.hid (Hh.out.below hB1)
  have HB1 := Lib.hid hB1
  have Hres := Lib.hid hres
  have hr1 := Hr.out.below hB1
  have hgl1 : g < w1.heap.size := by omega
  have hrl1 : r < w1.heap.size := by omega
  have hc := H1.out.cell
  rw [Hv.out, hl] at hc
  have hfz := H1.out.notFrozen
  obtain ⟨c1, c2, c3, c4⟩ := hr1.cell4 0 hp _ Hx.out
  simp only [Nat.zero_mul, Nat.zero_add] at c1 c2 c3 c4
  obtain ⟨d1, d2, d3, d4⟩ := hr1.cell4 (ks.length - 1) (by omega) _ Hy.out
  rw [hl, Nat.add_sub_cancel] at d1 d2 d3 d4
  simp only at d1 d2 d3 d4
  have f1 := hr1.frozen 0
  have f2 := hr1.frozen 1
  have f3 := hr1.frozen 2
  have f4 := hr1.frozen 3
  have hlc : (l : Int) + 1 ≤ (cap : Int) := by have := hr1.le; omega
  have hlb : (l : Int) ≤ 1000 := by omega
  have Hr1 := Lib.hid hr1
  clear hb1 hB1 hres hr1 hl
  go_wp2
  go_region
  go_wp2_with fail
  refine (pop_sink (x := (x1, x2, x3, x4)) (y := (y1, y2, y3, y4)) (q := w.heap.size) H1.out Hv.out Hr1.out hgr hBr Hl.out Hyl.out hn Hres.out (by omega) (by omega)).mono ?_
  rintro e w2 ⟨rfl, hq2, hx2, hk2, hv2⟩
  have Hk2 := Lib.hid hk2
  have Hv2 := Lib.hid hv2
  have a1 : w2.cell? ⟨w1.heap.size, 0, none⟩ = some (.int .i64 x1) := by rw [cell_of_row _ _ 0 _ _ (0, 0) hx2]; rfl
  have a2 : w2.cell? ⟨w1.heap.size, 1, none⟩ = some (.int .i64 x2) := by rw [cell_of_row _ _ 1 _ _ (0, 0) hx2]; rfl
  have a3 : w2.cell? ⟨w1.heap.size, 2, none⟩ = some (.int .i64 x3) := by rw [cell_of_row _ _ 2 _ _ (0, 0) hx2]; rfl
  have a4 : w2.cell? ⟨w1.heap.size, 3, none⟩ = some (.int .i64 x4) := by rw [cell_of_row _ _ 3 _ _ (0, 0) hx2]; rfl
  have b1 : w2.cell? ⟨w.heap.size, 0, none⟩ = some (.int .i64 0) := by rw [cell_of_row _ _ 0 _ _ (0, 0) hq2]; rfl
  have b2 : w2.cell? ⟨w.heap.size, 1, none⟩ = some (.int .i64 0) := by rw [cell_of_row _ _ 1 _ _ (0, 0) hq2]; rfl
  have b3 : w2.cell? ⟨w.heap.size, 2, none⟩ = some (.int .i64 0) := by rw [cell_of_row _ _ 2 _ _ (0, 0) hq2]; rfl
  have b4 : w2.cell? ⟨w.heap.size, 3, none⟩ = some (.int .i64 0) := by rw [cell_of_row _ _ 3 _ _ (0, 0) hq2]; rfl
  have e1 : w2.frozen? ⟨w.heap.size, 0, none⟩ = false := by simp [World.frozen?, hq2]
  have e2 : w2.frozen? ⟨w.heap.size, 1, none⟩ = false := by simp [World.frozen?, hq2]
  have e3 : w2.frozen? ⟨w.heap.size, 2, none⟩ = false := by simp [World.frozen?, hq2]
  have e4 : w2.frozen? ⟨w.heap.size, 3, none⟩ = false := by simp [World.frozen?, hq2]
  have hq2b : w.heap.size < w2.heap.size := (Array.getElem?_eq_some_iff.1 hq2).1
  clear hk2 hv2 hx2 hq2 c1 c2 c3 c4 d1 d2 d3 d4 f1 f2 f3 f4 hc hfz
  go_wp2
  refine bodyPost_ret (v := .tuple #[.agg #[.int .i64 x1, .int .i64 x2, .int .i64 x3, .int .i64 x4], .bool true]) (by simp [results, Try.results13, go_sem, b1, b2, b3, b4]) rfl ?_
  refine ⟨by rw [Hx.out], ?_, ?_⟩
  · have hK : Kept (fun k => k = g ∨ v.ownBlock = some k) w w2 := (Kept.of_below HB1.out).trans Hk2.out
    exact (((hK.setNew (p := ⟨w.heap.size, 0, none⟩) (Nat.le_refl _) _).setNew (p := ⟨w.heap.size, 1, none⟩) (Nat.le_refl _) _).setNew (p := ⟨w.heap.size, 2, none⟩) (Nat.le_refl _) _).setNew (p := ⟨w.heap.size, 3, none⟩) (Nat.le_refl _) _
  · obtain ⟨v', ks', hp', hh', hv'⟩ := Hv2.out
    refine ⟨v', ks', hp', hh'.kept (S := fun k => k = w.heap.size) ?_ (by omega) ?_, hv'⟩
    · exact ((((Kept.refl (fun k => k = w.heap.size) w2).setCell (p := ⟨w.heap.size, 0, none⟩) rfl _).setCell (p := ⟨w.heap.size, 1, none⟩) rfl _).setCell (p := ⟨w.heap.size, 2, none⟩) rfl _).setCell (p := ⟨w.heap.size, 3, none⟩) rfl _
    · intro k hk e
      have h1 := hv' k hk
      rw [Hv.out] at h1
      have : r = k := by simpa [Value.ownBlock] using h1
      omega

theorem pop_empty (B g : Nat) (v : Value) (w : World) (h : HeapAt B w g v []) :
    Calls Try.prog 13 #[.pointer (some ⟨g, 0, none⟩)] w fun e w' => e = .returned (.tuple #[zeroKey, .bool false]) ∧ Below w.heap.size w w' := by
  have hT := Lib.hid (fun w (h : HeapAt B w g v []) => top_empty B g v w h)
  have hb : Below w.heap.size w (w.alloc (.cells #[.int .i64 0, .int .i64 0, .int .i64 0, .int .i64 0] 30)) := (Below.refl _ _).alloc (Nat.le_refl _) _
  have H := Lib.hid (h.below hb)
  have hres0 := Lib.hid (heap_alloc_new w (.cells #[.int .i64 0, .int .i64 0, .int .i64 0, .int .i64 0] 30))
  clear h hb
  go_enter Try.func13, Try.ntmps13
  go_wp2_with fail
  refine (hT.out _ H.out).mono ?_
  rintro e w1 ⟨rfl, hb1⟩
  have hw1 : w.heap.size < w1.heap.size := by have := hb1.size; simp at this; omega
  have hB1 : Below w.heap.size w w1 := ((Below.refl _ _).alloc (Nat.le_refl _) _).trans (hb1.mono (by simp))
  have hq2 : w1.heap[w.heap.size]? = some (.cells #[.int .i64 0, .int .i64 0, .int .i64 0, .int .i64 0] 30 (0, 0)) := (hb1.block _ (by simp)).trans hres0.out
  have b1 : w1.cell? ⟨w.heap.size, 0, none⟩ = some (.int .i64 0) := by rw [cell_of_row _ _ 0 _ _ (0, 0) hq2]; rfl
  have b2 : w1.cell? ⟨w.heap.size, 1, none⟩ = some (.int .i64 0) := by rw [cell_of_row _ _ 1 _ _ (0, 0) hq2]; rfl
  have b3 : w1.cell? ⟨w.heap.size, 2, none⟩ = some (.int .i64 0) := by rw [cell_of_row _ _ 2 _ _ (0, 0) hq2]; rfl
  have b4 : w1.cell? ⟨w.heap.size, 3, none⟩ = some (.int .i64 0) := by rw [cell_of_row _ _ 3 _ _ (0, 0) hq2]; rfl
  have e1 : w1.frozen? ⟨w.heap.size, 0, none⟩ = false := by simp [World.frozen?, hq2]
  have e2 : w1.frozen? ⟨w.heap.size, 1, none⟩ = false := by simp [World.frozen?, hq2]
  have e3 : w1.frozen? ⟨w.heap.size, 2, none⟩ = false := by simp [World.frozen?, hq2]
  have e4 : w1.frozen? ⟨w.heap.size, 3, none⟩ = false := by simp [World.frozen?, hq2]
  have HB1 := Lib.hid hB1
  clear hb1 hB1 hq2
  go_wp2
  refine bodyPost_ret (v := .tuple #[zeroKey, .bool false]) (by simp [results, Try.results13, go_sem, b1, b2, b3, b4, hw1]) rfl ⟨rfl, ?_⟩
  exact ((((HB1.out.setCell (p := ⟨w.heap.size, 0, none⟩) (Nat.le_refl _) _).setCell (p := ⟨w.heap.size, 1, none⟩) (Nat.le_refl _) _).setCell (p := ⟨w.heap.size, 2, none⟩) (Nat.le_refl _) _).setCell (p := ⟨w.heap.size, 3, none⟩) (Nat.le_refl _) _).alloc (by simp; omega) _

end Go.Proofs.Ythpcaamfcmjnmaa
