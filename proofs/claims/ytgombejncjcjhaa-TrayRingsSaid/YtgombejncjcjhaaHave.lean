/-
  A Ring of ints as a queue, with the blocks that it uses; a list of ints in the middle of a row, to which one is appended and whose first is cut off.
  Conditions: none beyond each theorem's own.
-/
import Derived.Test.YtgombejncjcjhaaQueue
import Derived.ArgAppend
namespace Go.Proofs.Ytgombejncjcjhaa
open Go.RowKit

/-- a Ring that holds ls, in blocks of U -/
def QueueU (U : Nat → Prop) (w : World) (g m : Nat) (ls : List Int) : Prop :=
  ∃ A ss f, RingAt w g A ss f ls.length m ∧ Holds ss f ls ∧ (∀ k, RingUses g A k → U k) ∧ (ss = [] → A = none)

theorem RingAt.usesLt {w : World} {g f c m k : Nat} {A : Option Addr} {ss : List Int} (h : RingAt w g A ss f c m) (hk : RingUses g A k) : k < w.heap.size := by
  rcases hk with rfl | ⟨a, e, rfl⟩
  · exact h.lt
  · rcases h.row with ⟨_, e2⟩ | ⟨r, e2, hr, _⟩
    · rw [e2] at e; cases e
    · rw [e2] at e
      have : a = ⟨r, 0, none⟩ := by simpa using e.symm
      rw [this]; exact hr.lt

theorem QueueU.mono {U V : Nat → Prop} {w : World} {g m : Nat} {ls : List Int} (h : QueueU U w g m ls) (hUV : ∀ k, k < w.heap.size → U k → V k) : QueueU V w g m ls := by
  obtain ⟨A, ss, f, h1, h2, h3, h4⟩ := h
  exact ⟨A, ss, f, h1, h2, fun k hk => hUV k (h1.usesLt hk) (h3 k hk), h4⟩

theorem QueueU.kept {U S : Nat → Prop} {w w' : World} {g m : Nat} {ls : List Int} (h : QueueU U w g m ls) (hk : Kept S w w') (hs : ∀ k, U k → ¬ S k) : QueueU U w' g m ls := by
  obtain ⟨A, ss, f, h1, h2, h3, h4⟩ := h
  exact ⟨A, ss, f, h1.kept hk (fun k hk' => hs k (h3 k hk')), h2, h3, h4⟩

theorem QueueU.plain {U : Nat → Prop} {B : Nat} {w : World} {g m : Nat} {ls : List Int} (h : QueueU U w g m ls) (hU : ∀ k, U k → B ≤ k) : Queue B w g m ls := by
  obtain ⟨A, ss, f, h1, h2, h3, h4⟩ := h
  exact ⟨A, ss, f, h1, h2, fun k hk => hU k (h3 k hk), h4⟩

theorem queueU_push (U : Nat → Prop) (g m : Nat) (ls : List Int) (x : Int) (w : World) (h : QueueU U w g m ls) (hl : ls.length < m) (hm : m ≤ 65536) :
    Calls Try.prog 36 #[.pointer (some ⟨g, 0, none⟩), .int .i64 x] w fun e w' => e = .returned (.bool true) ∧ QueueU (fun k => U k ∨ w.heap.size ≤ k) w' g m (ls ++ [x]) ∧ Kept U w w' := by
  obtain ⟨A, ss, f, h1, h2, h3, hnil⟩ := h
  have hlen : (ls ++ [x]).length = ls.length + 1 := by simp
  rcases Nat.lt_or_ge ls.length ss.length with hlt | hge
  · obtain ⟨r, hA⟩ : ∃ r, A = some ⟨r, 0, none⟩ := by
      rcases h1.row with ⟨h0, _⟩ | ⟨r, h0, _, _⟩
      · rw [h0] at hlt; simp at hlt
      · exact ⟨r, h0⟩
    subst hA
    obtain ⟨hr, hgr⟩ := h1.irow
    have hf : f < ss.length := by have := h1.hf; omega
    refine (ring_push_room g r ss f ls.length m x w h1 hr hgr hlt hm).mono ?_
    rintro e w' ⟨rfl, h4, h5⟩
    exact ⟨rfl, ⟨_, _, f, by rw [hlen]; exact h4, h2.push hf hlt x, fun k hk => .inl (h3 k hk), fun e => absurd e (set_ne_nil (by omega))⟩, h5.mono (fun k _ hk => h3 k hk)⟩
  · have hc : ls.length = ss.length := by have := h1.hc; omega
    rcases Nat.eq_zero_or_pos ss.length with h0 | h0
    · have hs : ss = [] := List.eq_nil_of_length_eq_zero h0
      subst hs
      have hls : ls = [] := List.eq_nil_of_length_eq_zero (by simpa using hc)
      subst hls
      have hA : A = none := hnil rfl
      have hf0 : f = 0 := by have := h1.hf; simp at this; exact this
      subst hA hf0
      refine (ring_push_grow g w.heap.size none [] [0] 0 0 m x w h1 rfl hl hm (by simp) (fun k => ?_) (Nat.le_refl _)).mono ?_
      · refine (grow_first g m (w.drewN k) (RingAt.drewN h1 k) hl hm).mono ?_
        rintro e w' ⟨rfl, h4, h5⟩
        exact ⟨rfl, h4, ⟨h5.os, h5.tape, h5.output, h5.size, h5.block⟩⟩
      · rintro e w' ⟨rfl, h4, h5⟩
        refine ⟨rfl, ⟨_, _, 0, h4, ?_, ?_, fun e => absurd e (set_ne_nil (by simp))⟩, h5.mono (fun k _ hk => h3 k hk)⟩
        · intro i hi
          simp at hi
          subst hi
          simp
        · rintro k (rfl | ⟨a, e, rfl⟩)
          · exact .inl (h3 _ (.inl rfl))
          · have : a = ⟨w.heap.size, 0, none⟩ := by simpa using e.symm
            rw [this]; exact .inr (Nat.le_refl _)
    · obtain ⟨r, hA⟩ : ∃ r, A = some ⟨r, 0, none⟩ := by
        rcases h1.row with ⟨h9, _⟩ | ⟨r, h9, _, _⟩
        · rw [h9] at h0; simp at h0
        · exact ⟨r, h9⟩
      subst hA
      obtain ⟨hr, hgr⟩ := h1.irow
      have hf : f < ss.length := by have := h1.hf; omega
      have hmore : ss.length < more ss.length m := by unfold more; split <;> omega
      have hl2 : (ss.drop f ++ ss.take f ++ List.replicate (more ss.length m - ss.length) (0 : Int)).length = more ss.length m := by simp; omega
      have h1' := h1
      rw [hc] at h1'
      refine (ring_push_grow g w.heap.size _ ss (ss.drop f ++ ss.take f ++ List.replicate (more ss.length m - ss.length) 0) f ls.length m x w h1 hc hl hm (by rw [hl2]; omega) (fun k => ?_) (Nat.le_refl _)).mono ?_
      · refine (grow_more g r m ss f (w.drewN k) (RingAt.drewN h1' k) hr hf (by omega) hm).mono ?_
        rintro e w' ⟨rfl, h4, h5⟩
        refine ⟨rfl, ?_, ⟨h5.os, h5.tape, h5.output, h5.size, h5.block⟩⟩
        rw [hc]
        exact h4
      · rintro e w' ⟨rfl, h4, h5⟩
        have hH := (h2.grow hf hc hmore).push (by rw [hl2]; omega) (by rw [hl2]; omega) x
        rw [Nat.zero_add, hl2, Nat.mod_eq_of_lt (by omega)] at hH
        refine ⟨rfl, ⟨_, _, 0, by rw [hlen]; exact h4, hH, ?_, fun e => absurd e (set_ne_nil (by rw [hl2]; omega))⟩, h5.mono (fun k _ hk => h3 k hk)⟩
        rintro k (rfl | ⟨a, e, rfl⟩)
        · exact .inl (h3 _ (.inl rfl))
        · have : a = ⟨w.heap.size, 0, none⟩ := by simpa using e.symm
          rw [this]; exact .inr (Nat.le_refl _)

theorem queueU_pop (U : Nat → Prop) (g m : Nat) (y : Int) (ys : List Int) (w : World) (h : QueueU U w g m (y :: ys)) (hm : m ≤ 65536) :
    Calls Try.prog 37 #[.pointer (some ⟨g, 0, none⟩)] w fun e w' => e = .returned (.tuple #[.int .i64 y, .bool true]) ∧ QueueU U w' g m ys ∧ Kept U w w' := by
  obtain ⟨A, ss, f, h1, h2, h3, hnil⟩ := h
  have hc := h1.hc
  simp only [List.length_cons] at hc
  obtain ⟨r, hA⟩ : ∃ r, A = some ⟨r, 0, none⟩ := by
    rcases h1.row with ⟨h9, _⟩ | ⟨r, h9, _, _⟩
    · rw [h9] at hc; simp at hc
    · exact ⟨r, h9⟩
  subst hA
  have hf : f < ss.length := by have := h1.hf; omega
  have hx : ss.getD f 0 = y := by
    have := h2 0 (by simp)
    rw [Nat.add_zero, Nat.mod_eq_of_lt hf] at this
    rw [this]; rfl
  refine (ring_pop g r ss f (y :: ys).length m w h1 (by simp) hm y hx).mono ?_
  rintro e w' ⟨rfl, h4, h5⟩
  exact ⟨rfl, ⟨_, _, _, h4, h2.pop hf h1.hc, h3, fun e => absurd e (set_ne_nil (by omega))⟩, h5.mono (fun k _ hk => h3 k hk)⟩


/-- a list of ints in a row: from place off on, with room up to cap -/
def HaveAt (w : World) (v : Value) (ls : List Int) : Prop :=
  (v = .slice none 0 0 ∧ ls = []) ∨
  ∃ b off cap cur, v = .slice (some ⟨b, off, none⟩) ls.length cap ∧ w.heap[b]? = some (.cells cur 3 (0, 0)) ∧ off + cap ≤ cur.size ∧ ls.length ≤ cap ∧ ∀ i, i < ls.length → cur[off + i]? = some (.int .i64 (ls.getD i 0))

theorem HaveAt.lt {w : World} {v : Value} {ls : List Int} {k : Nat} (h : HaveAt w v ls) (hk : v.ownBlock = some k) : k < w.heap.size := by
  rcases h with ⟨rfl, _⟩ | ⟨b, off, cap, cur, rfl, hb, _⟩
  · simp [Value.ownBlock] at hk
  · have : b = k := by simpa [Value.ownBlock] using hk
    subst this
    exact (Array.getElem?_eq_some_iff.1 hb).1

theorem HaveAt.kept {S : Nat → Prop} {w w' : World} {v : Value} {ls : List Int} (h : HaveAt w v ls) (hk : Kept S w w') (hs : ∀ k, v.ownBlock = some k → ¬ S k) : HaveAt w' v ls := by
  rcases h with h | ⟨b, off, cap, cur, rfl, hb, rest⟩
  · exact .inl h
  · exact .inr ⟨b, off, cap, cur, rfl, (hk.block b (Array.getElem?_eq_some_iff.1 hb).1 (hs b (by simp [Value.ownBlock]))).trans hb, rest⟩

theorem HaveAt.alloc {w : World} {v : Value} {ls : List Int} (h : HaveAt w v ls) (o : Obj) : HaveAt (w.alloc o) v ls :=
  h.kept (S := fun _ => False) ((Kept.refl _ w).alloc o) (fun _ _ h => h)

theorem HaveAt.form {w : World} {v : Value} {ls : List Int} (h : HaveAt w v ls) : ∃ a cap, v = .slice a ls.length cap := by
  rcases h with ⟨rfl, rfl⟩ | ⟨b, off, cap, cur, rfl, _⟩
  · exact ⟨none, 0, rfl⟩
  · exact ⟨_, cap, rfl⟩

theorem have_of_own {w : World} {base n : Nat} {v : Value} {ls : List Int} (h : w.ownsRow base 3 1 v n (ls.map (Value.int .i64))) (hn : n = ls.length) (hp : 0 < n) : HaveAt w v ls := by
  subst hn
  rcases h.2 with ⟨_, h0⟩ | ⟨g, cap, cur, rfl, _, hg, hl, _, hs, ht⟩
  · omega
  · refine .inr ⟨g, 0, cap, cur, rfl, hg, by omega, hl, fun i hi => ?_⟩
    have h1 : (ls.map (Value.int .i64))[i]? = some (.int .i64 (ls.getD i 0)) := by simp [hi]
    rw [← ht, List.getElem?_take, if_pos (by omega)] at h1
    rw [Nat.zero_add, ← h1]
    simp

theorem map_snoc_int (ls : List Int) (y : Int) : ls.map (Value.int .i64) ++ [Value.int .i64 y] = (ls ++ [y]).map (Value.int .i64) := by simp

/-- one int more: in place, or in a new row -/
theorem wpList_have {w : World} {ops : Array Oper} {rest : List Oper} {o : Oper} {a : Act} {Q : Exit → Act → World → Prop} (hgd : o.guard = none) (s x : Operand)
    (ho : o.op = Op.call { callee := Callee.builtin Builtin.append, args := #[s, x], argTypes := #[30, 30] }) (v : Value) (ls : List Int) (hs : a.eval s = v) (H : HaveAt w v ls) (ad : Addr) (y : Int) (c : Nat) (hx : a.eval x = .slice (some ad) 1 c)
    (hc : w.cell? ad = some (.int .i64 y)) (hl : ls.length ≤ 1000)
    (h : ∀ v' w', HaveAt w' v' (ls ++ [y]) → Kept (fun k => v.ownBlock = some k) w w' → (∀ k, v'.ownBlock = some k → v.ownBlock = some k ∨ w.heap.size ≤ k) → wpList Try.prog ops Q rest (a.put o.dst v') w') : wpList Try.prog ops Q (o :: rest) a w := by
  obtain ⟨i0, hi, hz0, hz1, hz2⟩ := info_parts Try.infoInt
  have hnew : ∀ j u, [Value.int .i64 y][j]? = some u → w.cell? (ad.add j) = some u := by
    intro j u hj
    match j, hj with
    | 0, hj => simp at hj; subst hj; simpa [Addr.add] using hc
  have hone : ∀ u ∈ [Value.int .i64 y], u.oneCell' = true := by intro u hu; simp at hu; subst hu; simp [Value.oneCell']
  have hfresh : ∀ v' w', w'.ownsRow w.heap.size 3 1 v' (ls.length + 1) (ls.map (Value.int .i64) ++ [Value.int .i64 y]) → w.grownBy w' none → wpList Try.prog ops Q rest (a.put o.dst v') w' := by
    intro v' w' h1 h2
    rw [map_snoc_int] at h1
    refine h v' w' (have_of_own h1 (by simp) (by omega)) ((Kept.refl _ w).grown h2 (fun _ e => by cases e)) (fun k hk => .inr ?_)
    exact (h1.lt k hk).1
  rcases H with ⟨rfl, rfl⟩ | ⟨b, off, cap, cur, rfl, hb, hcap, hlc, hel⟩
  · exact wpList_append_grows w hgd s x 30 ho 3 i0 (.int .i64 0) 1 8 Try.underlying30 hi hz0 hz1 hz2 rfl (by omega) none 0 0 [] hs (fun _ => ⟨rfl, rfl⟩) rfl (fun _ e => by cases e) ad 1 c [.int .i64 y] hx rfl hnew hone (by omega) (by unfold maxLen; omega) (by omega) hfresh
  · have hcell : ∀ j, j < cur.size → w.cell? ⟨b, j, none⟩ = cur[j]? := fun j _ => cell_of_row w b j cur _ (0, 0) hb
    refine wpList_append_arg w hgd s x 30 ho 3 i0 (.int .i64 0) 1 8 Try.underlying30 hi hz0 hz1 hz2 rfl (by omega) b off ls.length cap (ls.map (Value.int .i64)) hs (by simp) ?_ ad 1 c [.int .i64 y] hx rfl hnew hone ?_ (by unfold maxLen; omega) (by omega) ?_ (fun _ => hfresh)
    · intro j u hj
      have hj' : j < ls.length := by obtain ⟨h, _⟩ := List.getElem?_eq_some_iff.1 hj; simpa using h
      rw [hcell _ (by omega), hel j hj', ← hj]
      simp [hj']
    · intro hr j hj
      have : j = 0 := by simpa using hj
      subst this
      refine ⟨?_, by simp [World.frozen?, hb]⟩
      rw [hcell _ (by omega)]
      simp
      omega
    · intro hr
      have e : w.setCells b (off + ls.length * 1) [Value.int .i64 y] = w.setCell ⟨b, off + ls.length, none⟩ (.int .i64 y) := by simp [World.setCells]
      rw [e]
      refine h _ _ (.inr ⟨b, off, cap, _, by simp, Joins.block_setCell (i := off + ls.length) hb _, by simpa using hcap, by simpa using hr, fun i hi => ?_⟩) ((Kept.refl _ w).setCell (p := ⟨b, off + ls.length, none⟩) (by simp [Value.ownBlock]) _) (fun k hk => .inl (by simpa [Value.ownBlock] using hk))
      simp only [List.length_append, List.length_cons, List.length_nil] at hi
      rw [getD_snoc]
      by_cases hl2 : i = ls.length
      · subst hl2
        rw [if_pos rfl, Array.getElem?_setIfInBounds_self_of_lt (by omega)]
      · rw [if_neg hl2, Array.getElem?_setIfInBounds_ne (by omega)]
        exact hel i (by omega)

/-- the first cut off -/
theorem HaveAt.tail {w : World} {v : Value} {y : Int} {ys : List Int} (h : HaveAt w v (y :: ys)) : ∃ b off cap, v = .slice (some ⟨b, off, none⟩) (ys.length + 1) cap ∧ ys.length + 1 ≤ cap ∧ w.cell? ⟨b, off, none⟩ = some (.int .i64 y) ∧ b < w.heap.size ∧
    HaveAt w (.slice (if cap = 1 then some ⟨b, off, none⟩ else some ⟨b, off + 1, none⟩) ys.length (cap - 1)) ys := by
  rcases h with ⟨_, h0⟩ | ⟨b, off, cap, cur, rfl, hb, hcap, hlc, hel⟩
  · cases h0
  · simp only [List.length_cons] at hlc
    refine ⟨b, off, cap, rfl, hlc, ?_, (Array.getElem?_eq_some_iff.1 hb).1, ?_⟩
    · rw [cell_of_row w b off cur _ (0, 0) hb]
      have := hel 0 (by simp)
      simpa using this
    · by_cases h1 : cap = 1
      · rw [if_pos h1]
        have : ys = [] := List.eq_nil_of_length_eq_zero (by omega)
        subst this
        exact .inr ⟨b, off, cap - 1, cur, rfl, hb, by omega, by simp, fun i hi => by simp at hi⟩
      · rw [if_neg h1]
        refine .inr ⟨b, off + 1, cap - 1, cur, rfl, hb, by omega, by omega, fun i hi => ?_⟩
        have := hel (i + 1) (by simp; omega)
        rw [show off + 1 + i = off + (i + 1) by omega, this]
        simp

end Go.Proofs.Ytgombejncjcjhaa
