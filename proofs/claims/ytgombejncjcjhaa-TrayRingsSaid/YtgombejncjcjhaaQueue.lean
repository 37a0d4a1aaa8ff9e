/-
  A Ring of ints as a queue: what goes in goes out, the oldest first.
  Conditions: the Ring's bound is at most 65536.
-/
import Derived.Test.YtgombejncjcjhaaRpush
namespace Go.Proofs.Ytgombejncjcjhaa
open Go.RowKit

theorem mod_small (f i n : Nat) (hf : f < n) (hi : i < n) : (f + i) % n = if f + i < n then f + i else f + i - n := by
  split
  · exact Nat.mod_eq_of_lt (by assumption)
  · rw [Nat.mod_eq_sub_mod (by omega), Nat.mod_eq_of_lt (by omega)]

theorem getD_set (ss : List Int) (p q : Nat) (x : Int) (hp : p < ss.length) : (ss.set p x).getD q 0 = if q = p then x else ss.getD q 0 := by
  by_cases h : q = p
  · subst h; simp [hp]
  · simp [h, Ne.symm h]

theorem getD_snoc (ls : List Int) (x : Int) (i : Nat) : (ls ++ [x]).getD i 0 = if i = ls.length then x else ls.getD i 0 := by
  by_cases h : i = ls.length
  · subst h; simp
  · by_cases h2 : i < ls.length
    · simp [h, List.getElem?_append, h2]
    · rw [if_neg h]
      simp [List.getElem?_eq_none (show (ls ++ [x]).length ≤ i by simp; omega), List.getElem?_eq_none (show ls.length ≤ i by omega)]

theorem Holds.push {ss ls : List Int} {f : Nat} (h : Holds ss f ls) (hf : f < ss.length) (hc : ls.length < ss.length) (x : Int) : Holds (ss.set ((f + ls.length) % ss.length) x) f (ls ++ [x]) := by
  intro i hi
  simp only [List.length_append, List.length_cons, List.length_nil] at hi
  have hp : (f + ls.length) % ss.length < ss.length := Nat.mod_lt _ (by omega)
  rw [List.length_set, getD_set _ _ _ _ hp, getD_snoc]
  by_cases hl : i = ls.length
  · subst hl; rw [if_pos rfl, if_pos rfl]
  · have e1 := mod_small f i ss.length hf (by omega)
    have e2 := mod_small f ls.length ss.length hf hc
    rw [if_neg hl, if_neg (by rw [e1, e2]; split <;> split <;> omega)]
    exact h i (by omega)

theorem Holds.pop {ss : List Int} {y : Int} {ys : List Int} {f : Nat} (h : Holds ss f (y :: ys)) (hf : f < ss.length) (hc : (y :: ys).length ≤ ss.length) : Holds (ss.set f 0) ((f + 1) % ss.length) ys := by
  intro i hi
  simp only [List.length_cons] at hc
  rw [List.length_set, getD_set _ _ _ _ hf]
  have e0 := mod_small f 1 ss.length hf (by omega)
  have hlt : (f + 1) % ss.length < ss.length := Nat.mod_lt _ (by omega)
  have e1 := mod_small ((f + 1) % ss.length) i ss.length hlt (by omega)
  have e2 := mod_small f (i + 1) ss.length hf (by omega)
  have e3 : ((f + 1) % ss.length + i) % ss.length = (f + (i + 1)) % ss.length := by
    rw [e1, e2]
    revert e0
    split <;> intro e0 <;> rw [e0] <;> split <;> split <;> omega
  rw [e3, if_neg (by rw [e2]; split <;> omega)]
  have := h (i + 1) (by simp; omega)
  rw [this]
  simp

theorem Holds.grow {ss ls : List Int} {f n' : Nat} (h : Holds ss f ls) (hf : f < ss.length) (hc : ls.length = ss.length) (hn : ss.length < n') : Holds (ss.drop f ++ ss.take f ++ List.replicate (n' - ss.length) 0) 0 ls := by
  intro i hi
  have hl : (ss.drop f ++ ss.take f ++ List.replicate (n' - ss.length) (0 : Int)).length = n' := by simp; omega
  rw [hl, Nat.zero_add, Nat.mod_eq_of_lt (by omega)]
  rw [← h i hi, mod_small f i ss.length hf (by omega)]
  rw [List.append_assoc]
  by_cases hlt : f + i < ss.length
  · rw [if_pos hlt, List.getD_eq_getElem?_getD, List.getElem?_append_left (by simp; omega), List.getElem?_drop, List.getD_eq_getElem?_getD]
  · rw [if_neg hlt, List.getD_eq_getElem?_getD, List.getElem?_append_right (by simp; omega), List.length_drop, List.getElem?_append_left (by simp; omega), List.getElem?_take, if_pos (by omega), List.getD_eq_getElem?_getD, show i - (ss.length - f) = f + i - ss.length by omega]

/-- a Ring, in blocks from B on, that holds ls -/
def Queue (B : Nat) (w : World) (g m : Nat) (ls : List Int) : Prop :=
  ∃ A ss f, RingAt w g A ss f ls.length m ∧ Holds ss f ls ∧ (∀ k, RingUses g A k → B ≤ k) ∧ (ss = [] → A = none)

theorem RingAt.drewN {w : World} {g f c m : Nat} {A : Option Addr} {ss : List Int} (h : RingAt w g A ss f c m) (k : Nat) : RingAt (w.drewN k) g A ss f c m := ⟨h.blk, h.row, h.hf, h.hc, h.hm⟩

theorem set_ne_nil {ss : List Int} {p : Nat} {x : Int} (h : 0 < ss.length) : ss.set p x ≠ [] := by
  intro e
  have : (ss.set p x).length = 0 := by rw [e]; rfl
  rw [List.length_set] at this
  omega

theorem Queue.below {B : Nat} {w w' : World} {g m : Nat} {ls : List Int} (h : Queue B w g m ls) (hb : Below w.heap.size w w') : Queue B w' g m ls := by
  obtain ⟨A, ss, f, h1, h2, h3, h4⟩ := h
  exact ⟨A, ss, f, h1.below hb, h2, h3, h4⟩

theorem queue_full (B g m : Nat) (ls : List Int) (x : Int) (w : World) (h : Queue B w g m ls) (hl : m ≤ ls.length) :
    Calls Try.prog 36 #[.pointer (some ⟨g, 0, none⟩), .int .i64 x] w fun e w' => e = .returned (.bool false) ∧ ∃ k, w' = w.drewN k := by
  obtain ⟨A, ss, f, h1, _, _, _⟩ := h
  exact ring_push_full g A ss f ls.length m x w h1 hl

theorem queue_push (B g m : Nat) (ls : List Int) (x : Int) (w : World) (h : Queue B w g m ls) (hl : ls.length < m) (hm : m ≤ 65536) (hB : B ≤ w.heap.size) :
    Calls Try.prog 36 #[.pointer (some ⟨g, 0, none⟩), .int .i64 x] w fun e w' => e = .returned (.bool true) ∧ Queue B w' g m (ls ++ [x]) ∧ Below B w w' := by
  obtain ⟨A, ss, f, h1, h2, h3, hnil⟩ := h
  have hlen : (ls ++ [x]).length = ls.length + 1 := by simp
  rcases Nat.lt_or_ge ls.length ss.length with hlt | hge
  · obtain ⟨r, hA⟩ : ∃ r, A = some ⟨r, 0, none⟩ := by
      rcases h1.row with ⟨h0, _⟩ | ⟨r, h0, _, _⟩
      · rw [h0] at hlt; simp at hlt
      · exact ⟨r, h0⟩
    subst hA
    obtain ⟨hr, hgr⟩ := h1.irow
    have hf : f < ss.length := by have := h1.hf; omega
    refine (ring_push_room g r ss f ls.length m x w h1 hr hgr hlt hm).mono ?_
    rintro e w' ⟨rfl, h4, h5⟩
    exact ⟨rfl, ⟨_, _, f, by rw [hlen]; exact h4, h2.push hf hlt x, h3, fun e => absurd e (set_ne_nil (by omega))⟩, h5.below h3 hB⟩
  · have hc : ls.length = ss.length := by have := h1.hc; omega
    rcases Nat.eq_zero_or_pos ss.length with h0 | h0
    · have hs : ss = [] := List.eq_nil_of_length_eq_zero h0
      subst hs
      have hls : ls = [] := List.eq_nil_of_length_eq_zero (by simpa using hc)
      subst hls
      have hA : A = none := hnil rfl
      have hf0 : f = 0 := by have := h1.hf; simp at this; exact this
      subst hA hf0
      refine (ring_push_grow g w.heap.size none [] [0] 0 0 m x w h1 rfl hl hm (by simp) (fun k => ?_) (Nat.le_refl _)).mono ?_
      · refine (grow_first g m (w.drewN k) (RingAt.drewN h1 k) hl hm).mono ?_
        rintro e w' ⟨rfl, h4, h5⟩
        exact ⟨rfl, h4, ⟨h5.os, h5.tape, h5.output, h5.size, h5.block⟩⟩
      · rintro e w' ⟨rfl, h4, h5⟩
        refine ⟨rfl, ⟨_, _, 0, h4, ?_, ?_, fun e => absurd e (set_ne_nil (by simp))⟩, h5.below h3 hB⟩
        · intro i hi
          simp at hi
          subst hi
          simp
        · rintro k (rfl | ⟨a, e, rfl⟩)
          · exact h3 _ (.inl rfl)
          · have : a = ⟨w.heap.size, 0, none⟩ := by simpa using e.symm
            rw [this]; exact hB
    · obtain ⟨r, hA⟩ : ∃ r, A = some ⟨r, 0, none⟩ := by
        rcases h1.row with ⟨h9, _⟩ | ⟨r, h9, _, _⟩
        · rw [h9] at h0; simp at h0
        · exact ⟨r, h9⟩
      subst hA
      obtain ⟨hr, hgr⟩ := h1.irow
      have hf : f < ss.length := by have := h1.hf; omega
      have hmore : ss.length < more ss.length m := by unfold more; split <;> omega
      have hl2 : (ss.drop f ++ ss.take f ++ List.replicate (more ss.length m - ss.length) (0 : Int)).length = more ss.length m := by simp; omega
      have h1' := h1
      rw [hc] at h1'
      refine (ring_push_grow g w.heap.size _ ss (ss.drop f ++ ss.take f ++ List.replicate (more ss.length m - ss.length) 0) f ls.length m x w h1 hc hl hm (by rw [hl2]; omega) (fun k => ?_) (Nat.le_refl _)).mono ?_
      · refine (grow_more g r m ss f (w.drewN k) (RingAt.drewN h1' k) hr hf (by omega) hm).mono ?_
        rintro e w' ⟨rfl, h4, h5⟩
        refine ⟨rfl, ?_, ⟨h5.os, h5.tape, h5.output, h5.size, h5.block⟩⟩
        rw [hc]
        exact h4
      · rintro e w' ⟨rfl, h4, h5⟩
        have hH := (h2.grow hf hc hmore).push (by rw [hl2]; omega) (by rw [hl2]; omega) x
        rw [Nat.zero_add, hl2, Nat.mod_eq_of_lt (by omega)] at hH
        refine ⟨rfl, ⟨_, _, 0, by rw [hlen]; exact h4, hH, ?_, fun e => absurd e (set_ne_nil (by rw [hl2]; omega))⟩, h5.below h3 hB⟩
        rintro k (rfl | ⟨a, e, rfl⟩)
        · exact h3 _ (.inl rfl)
        · have : a = ⟨w.heap.size, 0, none⟩ := by simpa using e.symm
          rw [this]; exact hB

theorem queue_pop (B g m : Nat) (y : Int) (ys : List Int) (w : World) (h : Queue B w g m (y :: ys)) (hm : m ≤ 65536) (hB : B ≤ w.heap.size) :
    Calls Try.prog 37 #[.pointer (some ⟨g, 0, none⟩)] w fun e w' => e = .returned (.tuple #[.int .i64 y, .bool true]) ∧ Queue B w' g m ys ∧ Below B w w' := by
  obtain ⟨A, ss, f, h1, h2, h3, hnil⟩ := h
  have hc := h1.hc
  simp only [List.length_cons] at hc
  obtain ⟨r, hA⟩ : ∃ r, A = some ⟨r, 0, none⟩ := by
    rcases h1.row with ⟨h9, _⟩ | ⟨r, h9, _, _⟩
    · rw [h9] at hc; simp at hc
    · exact ⟨r, h9⟩
  subst hA
  have hf : f < ss.length := by have := h1.hf; omega
  have hx : ss.getD f 0 = y := by
    have := h2 0 (by simp)
    rw [Nat.add_zero, Nat.mod_eq_of_lt hf] at this
    rw [this]; rfl
  refine (ring_pop g r ss f (y :: ys).length m w h1 (by simp) hm y hx).mono ?_
  rintro e w' ⟨rfl, h4, h5⟩
  exact ⟨rfl, ⟨_, _, _, h4, h2.pop hf h1.hc, h3, fun e => absurd e (set_ne_nil (by omega))⟩, h5.below h3 hB⟩

theorem queue_pop_empty (B g m : Nat) (w : World) (h : Queue B w g m []) :
    Calls Try.prog 37 #[.pointer (some ⟨g, 0, none⟩)] w fun e w' => e = .returned (.tuple #[.int .i64 0, .bool false]) ∧ w = w' := by
  obtain ⟨A, ss, f, h1, _, _, _⟩ := h
  exact ring_pop_empty g A ss f m w h1

theorem queue_len (B g m : Nat) (ls : List Int) (w : World) (h : Queue B w g m ls) :
    Calls Try.prog 38 #[.pointer (some ⟨g, 0, none⟩)] w fun e w' => e = .returned (.int .i64 ls.length) ∧ w = w' := by
  obtain ⟨A, ss, f, h1, _, _, _⟩ := h
  exact ring_len g A ss f ls.length m w h1

end Go.Proofs.Ytgombejncjcjhaa
