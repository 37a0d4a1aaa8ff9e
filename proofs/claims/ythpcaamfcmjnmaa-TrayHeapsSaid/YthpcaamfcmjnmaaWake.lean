/-
  The document's example of a Heap is as it says: awake of layer 2 answers true and changes nothing that was there.
  Conditions: none.
-/
import Derived.Test.YthpcaamfcmjnmaaPopb
namespace Go.Proofs.Ythpcaamfcmjnmaa
open Go.RowKit

theorem heap_new (w : World) : HeapAt w.heap.size (w.alloc (.cells #[.slice none 0 0] 27)) w.heap.size (.slice none 0 0) [] :=
  ⟨heap_alloc_new w _, World.ownsRow_nil _ _ _ _, Nat.le_refl _, fun j _ hj => by simp at hj⟩

/-- a Heap alone in new memory: what a push or a pop changes lies from block B on -/
theorem heap_below {B g : Nat} {w w' : World} {v : Value} {ks : List Key4} (h : HeapAt B w g v ks) (hk : Kept (fun k => k = g ∨ v.ownBlock = some k) w w') (hB : B ≤ w.heap.size) : Below B w w' := by
  refine hk.below ?_ hB
  rintro k (rfl | hv)
  · exact h.base
  · exact (h.own.lt k hv).1

theorem mem_at4 {ks : List Key4} {x : Key4} (h : x ∈ ks) : ∃ j, j < ks.length ∧ at4 ks j = x := by
  obtain ⟨j, hj, e⟩ := List.mem_iff_getElem.1 h
  exact ⟨j, hj, by simp [at4, hj, e]⟩

theorem at4_mem {ks : List Key4} {j : Nat} (h : j < ks.length) : at4 ks j ∈ ks := by
  have : at4 ks j = ks[j] := by simp [at4, h]
  rw [this]; exact List.getElem_mem h

/-- the first of a heap is the least of all its keys -/
theorem least_first {ks m : List Key4} {x : Key4} (h : IsHeap ks) (hp : ks.Perm m) (hx : x ∈ m) (hl : ∀ y ∈ m, klt y x = false) : at4 ks 0 = x := by
  obtain ⟨j, hj, e⟩ := mem_at4 (hp.mem_iff.2 hx)
  have h1 := h.first j hj
  rw [e] at h1
  have h2 := hl _ (hp.mem_iff.1 (at4_mem (show 0 < ks.length by omega)))
  exact klt_total h2 h1

set_option maxHeartbeats 1000000 in
theorem awake2 (w : World) : Calls Try.prog 9 #[] w fun e w' => e = .returned (.bool true) ∧ Below w.heap.size w w' := by
  go_enter Try.func9, Try.ntmps9
  go_wp2_with fail
  have h0 := heap_new w
  refine (push_any w.heap.size w.heap.size (.slice none 0 0) [] 3 0 0 0 _ h0 (by simp) (by simp)).mono ?_
  rintro e w1 ⟨rfl, hk1, v1, ks1, hp1, h1, _⟩
  have b1 : Below w.heap.size w w1 := ((Below.refl _ _).alloc (Nat.le_refl _) _).trans (heap_below h0 hk1 (by simp))
  have H1 := Lib.hid h1
  have HP1 := Lib.hid hp1
  have B1 := Lib.hid b1
  clear h0 hk1 h1 hp1 b1
  go_wp2_with fail
  refine (push_any w.heap.size w.heap.size v1 ks1 1 0 0 0 _ H1.out (by rw [HP1.out.length_eq]; simp) B1.out.size).mono ?_
  rintro e w2 ⟨rfl, hk2, v2, ks2, hp2, h2, _⟩
  have hperm : ks2.Perm [(1, 0, 0, 0), (3, 0, 0, 0)] := hp2.trans (List.Perm.cons _ HP1.out)
  have b2 := B1.out.trans (heap_below H1.out hk2 B1.out.size)
  have hlen : ks2.length = 2 := by rw [hperm.length_eq]; rfl
  have hfirst : at4 ks2 0 = (1, 0, 0, 0) := least_first h2.heap hperm (by simp) (by decide)
  have H2 := Lib.hid h2
  have HP2 := Lib.hid hperm
  have B2 := Lib.hid b2
  have HL := Lib.hid hlen
  have HF := Lib.hid hfirst
  clear hk2 h2 hp2 b2 hperm hlen hfirst
  go_wp2_with fail
  refine (pop_some w.heap.size w.heap.size v2 ks2 _ H2.out (by rw [HL.out]; omega) (by rw [HL.out]; omega)).mono ?_
  rintro e w3 ⟨rfl, hk3, v3, ks3, hp3, h3, _⟩
  rw [HF.out] at hp3 ⊢
  have hp3' : ks3.Perm [(3, 0, 0, 0)] := (List.perm_cons _).1 (hp3.trans HP2.out)
  obtain rfl : ks3 = [(3, 0, 0, 0)] := List.perm_singleton.1 hp3'
  have b3 := B2.out.trans (heap_below H2.out hk3 B2.out.size)
  have H3 := Lib.hid h3
  have B3 := Lib.hid b3
  clear hk3 h3 hp3 hp3' b3
  go_wp2_with fail
  refine (pop_some w.heap.size w.heap.size v3 [(3, 0, 0, 0)] _ (H3.out.below ((Below.refl _ _).alloc (Nat.le_refl _) _)) (by simp) (by simp)).mono ?_
  rintro e w4 ⟨rfl, hk4, _⟩
  have hs3 : w.heap.size < w3.heap.size := H3.out.lt
  have hcell : w4.cell? ⟨w3.heap.size, 0, none⟩ = some (.int .i64 1) := by
    refine hk4.cell (by simp) ?_ (by rw [cell_of_row _ _ 0 _ _ (0, 0) (heap_alloc_new w3 _)]; rfl)
    rintro (e | e)
    · omega
    · have := (H3.out.own.lt _ e).2; omega
  have hs4 : w3.heap.size < w4.heap.size := by have := hk4.size; simp at this; omega
  have b4 := (B3.out.alloc B3.out.size _).trans (heap_below (H3.out.below ((Below.refl _ _).alloc (Nat.le_refl _) _)) hk4 (by simp; omega))
  have B4 := Lib.hid b4
  clear hk4 b4
  rw [show at4 [(3, 0, 0, 0)] 0 = ((3 : Int), (0 : Int), (0 : Int), (0 : Int)) from rfl]
  go_wp2
  go_ret
  exact ⟨rfl, B4.out.alloc (by omega) _⟩

end Go.Proofs.Ythpcaamfcmjnmaa
