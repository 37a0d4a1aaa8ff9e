/-
  What grow of tray's Ring comes to: new slots, more of them, that hold the same ints from slot 0 on.
  Conditions: the Ring is full, and has fewer slots than it may have, at most 65536.
-/
import Derived.Test.YtgombejncjcjhaaRing
namespace Go.Proofs.Ytgombejncjcjhaa
open Go.RowKit

theorem Try.infoInt : (Try.prog.info? 3).map (fun i => (i.zero, i.size, i.bytes)) = some (some (.int .i64 0), 1, 8) := by kernel_rfl
theorem Try.sizeInt : (Try.prog.info? 3).map (·.size) = some 1 := by kernel_rfl

theorem own_iblock {w : World} {base g n : Nat} {xs : List Value} (h : w.ownsRow base 3 1 (.slice (some ⟨g, 0, none⟩) n n) n xs) : w.heap[g]? = some (.cells xs.toArray 3 (0, 0)) := by
  rcases h.2 with ⟨h', _⟩ | ⟨g', cap', cur, h', _, hg, _, _, hs, ht⟩
  · simp at h'
  · simp only [Value.slice.injEq, Option.some.injEq, Addr.mk.injEq, and_true, true_and] at h'
    obtain ⟨rfl, rfl⟩ := h'
    rw [hg, ← ht, List.take_of_length_le (by rw [Array.length_toList, hs]; exact Nat.le_refl _)]

/-- the world behind make: a row of noughts in a new block -/
theorem made_irow {w w1 : World} {n : Nat} (hown : w1.ownsRow w.heap.size 3 1 (.slice (some ⟨w.heap.size, 0, none⟩) n n) n (madeCells (Value.int .i64 0).cells (n * 1)).toList) (hgrow : w.grownBy w1 none) :
    Below w.heap.size w w1 ∧ Hid (w1.heap[w.heap.size]? = some (.cells ((List.replicate n (0 : Int)).map (Value.int .i64)).toArray 3 (0, 0))) := by
  refine ⟨(Below.refl _ _).grown hgrow (Nat.le_refl _) (fun _ h => by cases h), Lib.hid ?_⟩
  have h := own_iblock hown
  rw [show (Value.int .i64 0).cells = #[Value.int .i64 0] from rfl, toList_madeCells_one, Nat.mul_one] at h
  rw [h, List.map_replicate]

/-- how many slots there are behind grow -/
def more (n m : Nat) : Nat := if m < 2 * n + 1 then m else 2 * n + 1

theorem more_eq (n m : Nat) (hn : n ≤ 65536) : (if (m : Int) < IntKind.i64.wrap (IntKind.i64.wrap (2 * (n : Int)) + 1) then (m : Int) else IntKind.i64.wrap (IntKind.i64.wrap (2 * (n : Int)) + 1)) = ((more n m : Nat) : Int) := by
  rw [IntWalk.i64_in (2 * (n : Int)) (by omega), IntWalk.i64_in (2 * (n : Int) + 1) (by omega)]
  unfold more
  by_cases h : m < 2 * n + 1
  · rw [if_pos (by omega), if_pos h]
  · rw [if_neg (by omega), if_neg h]; omega

theorem more_zero (m : Nat) (hm : 0 < m) : (if (m : Int) < IntKind.i64.wrap (IntKind.i64.wrap 0 + 1) then (m : Int) else IntKind.i64.wrap (IntKind.i64.wrap 0 + 1)) = ((1 : Nat) : Int) := by
  have := more_eq 0 m (by omega)
  simp only [Int.ofNat_zero, Int.mul_zero] at this
  rw [this]
  unfold more
  by_cases h : m < 2 * 0 + 1
  · omega
  · rw [if_neg h]

/-- the Ring behind grow: new slots in a new block, the oldest in slot 0 -/
theorem ring_grown {w w5 : World} {g m c f : Nat} {A : Option Addr} {ss xs : List Int} (h : RingAt w g A ss f c m) (hb : Below w.heap.size w w5) (hz : w5.heap[w.heap.size]? = some (.cells (xs.map (Value.int .i64)).toArray 3 (0, 0))) (hc : c ≤ xs.length) (hm : xs.length ≤ m) (h0 : 0 < xs.length) :
    RingAt ((w5.setCell ⟨g, 0, none⟩ (.slice (some ⟨w.heap.size, 0, none⟩) xs.length xs.length)).setCell ⟨g, 1, none⟩ (.int .i64 0)) g (some ⟨w.heap.size, 0, none⟩) xs 0 c m := by
  have hgl := h.lt
  refine ⟨?_, .inr ⟨w.heap.size, rfl, ?_, by omega⟩, .inl h0, hc, hm⟩
  · have h1 : w5.heap[g]? = some (.cells #[.slice A ss.length ss.length, .int .i64 f, .int .i64 c, .int .i64 m] 65 (0, 0)) := (hb.block g hgl).trans h.blk
    rw [Joins.block_setCell (i := 1) (Joins.block_setCell (i := 0) h1 _)]
    rfl
  · unfold IRow
    rw [Below.heap_setCell _ _ _ _ (by simp; omega), Below.heap_setCell _ _ _ _ (by simp; omega)]
    exact hz

set_option maxHeartbeats 1000000 in
theorem grow_first (g m : Nat) (w : World) (h : RingAt w g none [] 0 0 m) (hm : 0 < m) (hm2 : m ≤ 65536) :
    Calls Try.prog 44 #[.pointer (some ⟨g, 0, none⟩)] w fun e w' => e = .returned (.tuple #[]) ∧ RingAt w' g (some ⟨w.heap.size, 0, none⟩) [0] 0 0 m ∧ Kept (RingUses g none) w w' := by
  obtain ⟨i0, hi, hz0, hz1, hz2⟩ := info_parts Try.infoInt
  have Hz2 := Lib.hid hz2
  clear hz2
  obtain ⟨c0, c1, c2, c3⟩ := h.cells
  simp only [List.length_nil] at c0
  have hgl := h.lt
  have H := Lib.hid h
  clear h
  have hm1 : (1 : Int) ≤ (m : Int) := by omega
  go_enter Try.func44, Try.ntmps44
  go_wp2
  go_still_tail 12, (by kernel_rfl)
  obtain ⟨w2, hw2⟩ : ∃ w2, w2 = w.drew := ⟨_, rfl⟩
  have b2 : Below w.heap.size w w2 := by rw [hw2]; exact (Below.refl _ _).drew
  have hs2 : w2.heap.size = w.heap.size := by rw [hw2]; rfl
  change wpList _ _ _ _ _ w.drew
  rw [← hw2]
  have Hw2 := Lib.hid hw2
  have Hs2 := Lib.hid hs2
  have HB2 := Lib.hid b2
  clear hw2 hs2 b2
  go_wp2_with (at_make; refine wpList_make_full _ rfl _ _ 30 rfl w2.heap.size 3 i0 (.int .i64 0) 1 Try.underlying30 hi hz0 hz1 .i64 .i64 _ _ 1 rfl rfl (more_zero m hm) (more_zero m hm) (by rw [Hz2.out]; omega) (by unfold maxLen; omega) (by exact Nat.le_refl _) ?_; intro w3 hown3 hgrow3; have hmade := made_irow hown3 hgrow3; clear hown3 hgrow3)
  rw [Hs2.out] at hmade ⊢
  have B3 : Hid (Below w.heap.size w w3) := Lib.hid (HB2.out.trans hmade.1)
  have hz3 := hmade.2
  have c0' := (B3.out.cell (p := ⟨g, 0, none⟩) hgl).trans c0
  have c1' := (B3.out.cell (p := ⟨g, 1, none⟩) hgl).trans c1
  clear hmade c0 c1 c2 c3
  go_still_tail 10, (by kernel_rfl)
  refine wpList_copy_nothing rfl (.tmp 17) (.tmp 26) 30 30 rfl 3 Try.underlying30 Try.sizeInt _ _ _ _ _ _ rfl rfl rfl ?_
  obtain ⟨w4, hw4⟩ : ∃ w4, w4 = w3.drew := ⟨_, rfl⟩
  change wpList _ _ _ _ _ w3.drew
  rw [← hw4]
  have B4 : Hid (Below w.heap.size w w4) := Lib.hid (by rw [hw4]; exact B3.out.drew)
  have Z4 : Hid (w4.heap[w.heap.size]? = some (.cells ((List.replicate 1 (0 : Int)).map (Value.int .i64)).toArray 3 (0, 0))) := Lib.hid (by rw [hw4]; exact hz3.out)
  clear hw4 c0' c1' hz3
  have c0' := (B4.out.cell (p := ⟨g, 0, none⟩) hgl).trans H.out.cells.1
  have c1' := (B4.out.cell (p := ⟨g, 1, none⟩) hgl).trans H.out.cells.2.1
  simp only [List.length_nil] at c0'
  go_wp2
  go_still_tail 12, (by kernel_rfl)
  refine wpList_copy_nothing rfl (.tmp 30) (.tmp 39) 30 30 rfl 3 Try.underlying30 Try.sizeInt _ _ _ _ _ _ rfl rfl rfl ?_
  obtain ⟨w5, hw5⟩ : ∃ w5, w5 = w4.drew := ⟨_, rfl⟩
  change wpList _ _ _ _ _ w4.drew
  rw [← hw5]
  have B5 : Hid (Below w.heap.size w w5) := Lib.hid (by rw [hw5]; exact B4.out.drew)
  have Z5 : Hid (w5.heap[w.heap.size]? = some (.cells ((List.replicate 1 (0 : Int)).map (Value.int .i64)).toArray 3 (0, 0))) := Lib.hid (by rw [hw5]; exact Z4.out)
  clear hw5 c0' c1'
  have R5 := Lib.hid (ring_grown H.out B5.out Z5.out)
  have c0' := (B5.out.cell (p := ⟨g, 0, none⟩) hgl).trans H.out.cells.1
  have c1' := (B5.out.cell (p := ⟨g, 1, none⟩) hgl).trans H.out.cells.2.1
  have f0 := (B5.out.frozen (p := ⟨g, 0, none⟩) hgl).trans (H.out.notFrozen 0)
  have f1 := (B5.out.frozen (p := ⟨g, 1, none⟩) hgl).trans (H.out.notFrozen 1)
  go_wp2
  go_end0
  exact ⟨rfl, R5.out (by simp) (by simp; omega) (by simp), ((Kept.of_below B5.out).setCell (p := ⟨g, 0, none⟩) (.inl rfl) _).setCell (p := ⟨g, 1, none⟩) (.inl rfl) _⟩

/-- a stretch of a row, as the copy reads it -/
theorem src_cells {w : World} {r off : Nat} {ss xs : List Int} {Xs : List Value} (h : IRow w r ss) (hX : Xs = xs.map (Value.int .i64)) (hx : ∀ j, j < xs.length → off + j < ss.length ∧ ss.getD (off + j) 0 = xs.getD j 0) :
    ∀ j v, Xs[j]? = some v → w.cell? ((⟨r, off, none⟩ : Addr).add j) = some v := by
  subst hX
  intro j v hj
  have hj' : j < xs.length := by obtain ⟨h, _⟩ := List.getElem?_eq_some_iff.1 hj; simpa using h
  have e : (⟨r, off, none⟩ : Addr).add j = ⟨r, off + j, none⟩ := by simp [Addr.add]
  rw [e, h.cell _ (hx j hj').1, (hx j hj').2, ← hj]
  simp [hj']

theorem ints_one {xs : List Int} {Xs : List Value} (hX : Xs = xs.map (Value.int .i64)) : ∀ v ∈ Xs, v.oneCell' = true := by
  subst hX
  intro v hv
  obtain ⟨x, _, rfl⟩ := List.mem_map.1 hv
  simp [Value.oneCell']

theorem splice_two {α : Type} (n : Nat) (z : α) (P Q : List α) (h : P.length + Q.length ≤ n) : splice (splice (List.replicate n z) 0 P) P.length Q = P ++ Q ++ List.replicate (n - (P.length + Q.length)) z := by
  have h1 : splice (List.replicate n z) 0 P = P ++ List.replicate (n - P.length) z := by simp [splice]
  rw [h1]
  unfold splice
  rw [List.take_left, List.drop_append, List.drop_eq_nil_of_le (by omega), List.nil_append, List.drop_replicate, List.append_assoc]
  congr 3
  omega

theorem two_splices (n' : Nat) (ss : List Int) (f : Nat) (hf : f < ss.length) (hn : ss.length < n') :
    splice (splice ((List.replicate n' (0 : Int)).map (Value.int .i64)) 0 ((ss.drop f).map (Value.int .i64))) (ss.length - f) ((ss.take f).map (Value.int .i64)) = (ss.drop f ++ ss.take f ++ List.replicate (n' - ss.length) 0).map (Value.int .i64) := by
  have hl : ((ss.drop f).map (Value.int .i64)).length = ss.length - f := by simp
  have hl2 : ((ss.take f).map (Value.int .i64)).length = f := by simp; omega
  have h := splice_two n' (Value.int .i64 0) ((ss.drop f).map (Value.int .i64)) ((ss.take f).map (Value.int .i64)) (by omega)
  rw [hl, hl2] at h
  rw [List.map_replicate, h, List.map_append, List.map_append, List.map_replicate]
  congr 2
  omega

set_option maxHeartbeats 2000000 in
theorem grow_more (g r m : Nat) (ss : List Int) (f : Nat) (w : World) (h : RingAt w g (some ⟨r, 0, none⟩) ss f ss.length m) (hr : IRow w r ss) (hf : f < ss.length) (hm : ss.length < m) (hm2 : m ≤ 65536) :
    Calls Try.prog 44 #[.pointer (some ⟨g, 0, none⟩)] w fun e w' => e = .returned (.tuple #[]) ∧ RingAt w' g (some ⟨w.heap.size, 0, none⟩) (ss.drop f ++ ss.take f ++ List.replicate (more ss.length m - ss.length) 0) 0 ss.length m ∧ Kept (RingUses g (some ⟨r, 0, none⟩)) w w' := by
  obtain ⟨i0, hi, hz0, hz1, hz2⟩ := info_parts Try.infoInt
  have Hz2 := Lib.hid hz2
  clear hz2
  obtain ⟨c0, c1, c2, c3⟩ := h.cells
  have hgl := h.lt
  have hrl := hr.lt
  have H := Lib.hid h
  have Hr := Lib.hid hr
  clear h hr
  obtain ⟨n, hn⟩ : ∃ n, n = ss.length := ⟨_, rfl⟩
  rw [← hn] at c0 c2 hf hm
  have Hn := Lib.hid hn
  clear hn
  obtain ⟨n', hn'⟩ : ∃ n', n' = more n m := ⟨_, rfl⟩
  have hnn : n < n' ∧ n' ≤ m ∧ n' ≤ 65536 := by rw [hn']; unfold more; split <;> omega
  have HM : Hid ((if (m : Int) < IntKind.i64.wrap (IntKind.i64.wrap (2 * (n : Int)) + 1) then (m : Int) else IntKind.i64.wrap (IntKind.i64.wrap (2 * (n : Int)) + 1)) = (n' : Int)) := Lib.hid (by rw [hn']; exact more_eq n m (by omega))
  have Hn' := Lib.hid hn'
  clear hn'
  obtain ⟨hnn1, hnn2, hnn3⟩ := hnn
  obtain ⟨X1, hX1⟩ : ∃ X1, X1 = (ss.drop f).map (Value.int .i64) := ⟨_, rfl⟩
  obtain ⟨X2, hX2⟩ : ∃ X2, X2 = (ss.take f).map (Value.int .i64) := ⟨_, rfl⟩
  obtain ⟨Z, hZ⟩ : ∃ Z, Z = (List.replicate n' (0 : Int)).map (Value.int .i64) := ⟨_, rfl⟩
  have HX1 := Lib.hid hX1
  have HX2 := Lib.hid hX2
  have HZ := Lib.hid hZ
  have L1 : Hid (X1.length = n - f) := Lib.hid (by rw [hX1, Hn.out]; simp)
  have L2 : Hid (X2.length = f) := Lib.hid (by rw [hX2]; have := Hn.out; simp; omega)
  have LZ : Hid (Z.length = n') := Lib.hid (by rw [hZ]; simp)
  clear hX1 hX2 hZ
  have i1 : (0 : Int) ≤ (f : Int) := by omega
  have i2 : (f : Int) ≤ (n : Int) := by omega
  have i3 : (f : Int) < (n : Int) := by omega
  go_enter Try.func44, Try.ntmps44
  go_wp2
  go_still_tail 12, (by kernel_rfl)
  obtain ⟨w2, hw2⟩ : ∃ w2, w2 = w.drew := ⟨_, rfl⟩
  have b2 : Below w.heap.size w w2 := by rw [hw2]; exact (Below.refl _ _).drew
  have hs2 : w2.heap.size = w.heap.size := by rw [hw2]; rfl
  change wpList _ _ _ _ _ w.drew
  rw [← hw2]
  have Hs2 := Lib.hid hs2
  have HB2 := Lib.hid b2
  clear hw2 hs2 b2
  go_wp2_with (at_make; refine wpList_make_full _ rfl _ _ 30 rfl w2.heap.size 3 i0 (.int .i64 0) 1 Try.underlying30 hi hz0 hz1 .i64 .i64 _ _ n' rfl rfl HM.out HM.out (by rw [Hz2.out]; omega) (by unfold maxLen; omega) (by exact Nat.le_refl _) ?_; intro w3 hown3 hgrow3; have hmade := made_irow hown3 hgrow3; clear hown3 hgrow3)
  all_goals
    rw [Hs2.out] at hmade ⊢
    have B3 : Hid (Below w.heap.size w w3) := Lib.hid (HB2.out.trans hmade.1)
    have Z3 : Hid (w3.heap[w.heap.size]? = some (.cells Z.toArray 3 (0, 0))) := Lib.hid (by rw [HZ.out]; exact hmade.2.out)
    have c0' := (B3.out.cell (p := ⟨g, 0, none⟩) hgl).trans c0
    have c1' := (B3.out.cell (p := ⟨g, 1, none⟩) hgl).trans c1
    clear hmade c0 c1 c2 c3
    go_still_tail 10, (by kernel_rfl)
    have hr3 : IRow w3.drew r ss := (B3.out.block r hrl).trans Hr.out
    refine wpList_copy_splice rfl (.tmp 17) (.tmp 26) 30 30 rfl 3 Try.underlying30 Try.sizeInt _ _ _ _ _ _ rfl rfl w.heap.size 0 Z 3 Z3.out X1 (by rw [L1.out]; simp only [Nat.min_def]; split <;> omega) (fun _ => ⟨rfl, ⟨r, f, none⟩, if_neg (by omega), src_cells (off := f) hr3 HX1.out (fun j hj => ?_)⟩) (by rw [L1.out, LZ.out]; omega) (ints_one HX1.out) w.heap.size w B3.out.drew (Nat.le_refl _) ?_
    · have := Hn.out
      simp only [List.length_drop] at hj
      exact ⟨by omega, by simp⟩
    intro w4 hrow4 b4
    have B4 := Lib.hid b4
    have c0' := (b4.cell (p := ⟨g, 0, none⟩) hgl).trans (by rw [H.out.cells.1, ← Hn.out])
    have c1' := (b4.cell (p := ⟨g, 1, none⟩) hgl).trans H.out.cells.2.1
    clear b4
    go_wp2
    obtain ⟨e, he⟩ : ∃ e, e = X1.length := ⟨_, rfl⟩
    rw [← he]
    have hen : e < n' := by rw [he, L1.out]; omega
    have j1 : (0 : Int) ≤ (e : Int) := by omega
    have j2 : (e : Int) ≤ (n' : Int) := by omega
    have hef : e + f = n := by rw [he, L1.out]; omega
    have He := Lib.hid he
    have Hef := Lib.hid hef
    clear he hef
    have hr4 := Lib.hid (show IRow w4.drew r ss from (B4.out.block r hrl).trans Hr.out)
    go_still_tail 12, (by kernel_rfl)
    refine wpList_copy_splice rfl (.tmp 30) (.tmp 39) 30 30 rfl 3 Try.underlying30 Try.sizeInt _ _ _ _ _ _ rfl rfl w.heap.size e (splice Z 0 X1) 3 hrow4.out X2 (by rw [L2.out]; simp only [Nat.min_def]; have := Hef.out; split <;> omega) (fun _ => ⟨if_neg (by omega), ⟨r, 0, none⟩, rfl, src_cells (off := 0) hr4.out HX2.out (fun j hj => ?_)⟩) (by rw [L2.out, length_splice _ _ _ (by rw [← He.out, LZ.out]; omega), LZ.out]; have := Hef.out; omega) (ints_one HX2.out) w.heap.size w B4.out.drew (Nat.le_refl _) ?_
    · have := Hn.out
      simp only [List.length_take] at hj
      exact ⟨by omega, by simp [show j < f by omega]⟩
    intro w5 hrow5 b5
    have B5 := Lib.hid b5
    have Z5 : Hid (w5.heap[w.heap.size]? = some (.cells ((ss.drop f ++ ss.take f ++ List.replicate (n' - ss.length) 0).map (Value.int .i64)).toArray 3 (0, 0))) := Lib.hid (by
      have h1 := hrow5.out
      rw [He.out, L1.out, HZ.out, HX1.out, HX2.out, Hn.out, two_splices n' ss f (by have := Hn.out; omega) (by have := Hn.out; omega)] at h1
      exact h1)
    have hxl : (ss.drop f ++ ss.take f ++ List.replicate (n' - ss.length) (0 : Int)).length = n' := by
      have := Hn.out
      simp
      omega
    have R5 := ring_grown H.out b5 Z5.out (by rw [hxl]; have := Hn.out; omega) (by rw [hxl]; exact hnn2) (by omega)
    rw [hxl] at R5
    have HR5 := Lib.hid R5
    have c0' := (b5.cell (p := ⟨g, 0, none⟩) hgl).trans H.out.cells.1
    have c1' := (b5.cell (p := ⟨g, 1, none⟩) hgl).trans H.out.cells.2.1
    have f0 := (b5.frozen (p := ⟨g, 0, none⟩) hgl).trans (H.out.notFrozen 0)
    have f1 := (b5.frozen (p := ⟨g, 1, none⟩) hgl).trans (H.out.notFrozen 1)
    clear R5 b5 hrow5 hxl
    go_wp2
    go_end0
    refine ⟨rfl, ?_, ((Kept.of_below B5.out).setCell (p := ⟨g, 0, none⟩) (.inl rfl) _).setCell (p := ⟨g, 1, none⟩) (.inl rfl) _⟩
    have h9 := HR5.out
    rw [Hn'.out, Hn.out] at h9 ⊢
    rw [List.append_assoc] at h9
    exact h9

end Go.Proofs.Ytgombejncjcjhaa
