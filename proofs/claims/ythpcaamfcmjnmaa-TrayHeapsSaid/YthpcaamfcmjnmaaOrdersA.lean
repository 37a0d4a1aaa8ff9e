/-
  Two heaps side by side; a slice of keys that came in; a list turned round holds the same keys.
  Conditions: none beyond each theorem's own.
-/
import Derived.Test.YthpcaamfcmjnmaaWake
import Derived.Deep.Slices
import Derived.Deep.Fields
import Derived.ChangeSame
namespace Go.Proofs.Ythpcaamfcmjnmaa
open Go.RowKit

/-- a slice of keys at this address, as long as the list, holds the list's keys -/
def ReadsK (w : World) (a : Option Addr) (ls : List Key4) : Prop :=
  ls = [] ∨ ∃ b off, a = some ⟨b, off, none⟩ ∧ b < w.heap.size ∧ ∀ i, i < ls.length → ∀ j, j < 4 → w.cell? ⟨b, off + (i * 4 + j), none⟩ = (kc (at4 ls i))[j]?

theorem ReadsK.below {w w' : World} {a : Option Addr} {ls : List Key4} (h : ReadsK w a ls) (hb : Below w.heap.size w w') : ReadsK w' a ls := by
  rcases h with h | ⟨b, off, ha, hl, hc⟩
  · exact .inl h
  · exact .inr ⟨b, off, ha, Nat.lt_of_lt_of_le hl hb.size, fun i hi j hj => (hb.cell (p := ⟨b, off + (i * 4 + j), none⟩) hl).trans (hc i hi j hj)⟩

theorem ReadsK.place {w : World} {a : Option Addr} {ls : List Key4} (h : ReadsK w a ls) (i : Nat) (hi : i < ls.length) (x : Key4) (hx : at4 ls i = x) :
    ∃ b off, a = some ⟨b, off, none⟩ ∧ b < w.heap.size ∧ w.cell? ⟨b, off + i * 4, none⟩ = some (.int .i64 x.1) ∧ w.cell? ⟨b, off + i * 4 + 1, none⟩ = some (.int .i64 x.2.1) ∧ w.cell? ⟨b, off + i * 4 + 2, none⟩ = some (.int .i64 x.2.2.1) ∧ w.cell? ⟨b, off + i * 4 + 3, none⟩ = some (.int .i64 x.2.2.2) := by
  subst hx
  rcases h with rfl | ⟨b, off, ha, hl, hc⟩
  · simp at hi
  · exact ⟨b, off, ha, hl, hc i hi 0 (by omega), hc i hi 1 (by omega), hc i hi 2 (by omega), hc i hi 3 (by omega)⟩

/-- two heaps that share nothing -/
structure Two (B : Nat) (w : World) (ga : Nat) (va : Value) (ka : List Key4) (gb : Nat) (vb : Value) (kb : List Key4) : Prop where
  a : HeapAt B w ga va ka
  b : HeapAt B w gb vb kb
  ne : ga ≠ gb
  apart : ∀ k, va.ownBlock = some k → vb.ownBlock ≠ some k

section
variable {B ga gb : Nat} {w w' : World} {va vb : Value} {ka kb : List Key4}

theorem Two.swap (h : Two B w ga va ka gb vb kb) : Two B w gb vb kb ga va ka := ⟨h.b, h.a, Ne.symm h.ne, fun k h1 h2 => h.apart k h2 h1⟩

theorem row_not_heap {g r : Nat} {v v2 : Value} {k k2 : List Key4} {g2 : Nat} (h : HeapAt B w g v k) (h2 : HeapAt B w g2 v2 k2) (hr : v2.ownBlock = some r) : r ≠ g := by
  rintro rfl
  rcases h2.own.2 with ⟨rfl, _⟩ | ⟨r', cap, cur, rfl, _, hb, _⟩
  · simp [Value.ownBlock] at hr
  · have e : r' = r := by simpa [Value.ownBlock] using hr
    subst e
    have h1 := h.blk
    rw [hb] at h1
    injection h1 with h1
    injection h1 with _ h3
    revert h3
    decide

/-- what a call changes of the first heap leaves the second one alone -/
theorem Two.other (h : Two B w ga va ka gb vb kb) (hk : Kept (fun k => k = ga ∨ va.ownBlock = some k) w w') : HeapAt B w' gb vb kb := by
  refine h.b.kept hk ?_ ?_
  · rintro (e | e)
    · exact h.ne e.symm
    · exact row_not_heap h.b h.a e rfl
  · intro r hr
    rintro (e | e)
    · exact row_not_heap h.a h.b hr e
    · exact h.apart r e hr

theorem Two.first {va' : Value} {ka' : List Key4} (h : Two B w ga va ka gb vb kb) (hk : Kept (fun k => k = ga ∨ va.ownBlock = some k) w w') (ha : HeapAt B w' ga va' ka') (hv : ∀ k, va'.ownBlock = some k → va.ownBlock = some k ∨ w.heap.size ≤ k) : Two B w' ga va' ka' gb vb kb := by
  refine ⟨ha, h.other hk, h.ne, fun k h1 h2 => ?_⟩
  rcases hv k h1 with e | e
  · exact h.apart k e h2
  · have := (h.b.own.lt k h2).2; omega

theorem Two.below (h : Two B w ga va ka gb vb kb) (hb : Below w.heap.size w w') : Two B w' ga va ka gb vb kb := ⟨h.a.below hb, h.b.below hb, h.ne, h.apart⟩

end

/-- the list that begins at place t and goes round -/
def turned (ls : List Key4) (t i : Nat) : List Key4 := (List.range i).map (fun j => at4 ls ((j + t) % ls.length))

theorem turned_succ (ls : List Key4) (t i : Nat) : turned ls t (i + 1) = turned ls t i ++ [at4 ls ((i + t) % ls.length)] := by
  simp [turned, List.range_succ]

theorem turned_perm (ls : List Key4) (t : Nat) : (turned ls t ls.length).Perm ls := by
  by_cases h0 : ls.length = 0
  · have : ls = [] := List.eq_nil_of_length_eq_zero h0
    subst this; exact List.Perm.refl _
  · have hr : t % ls.length < ls.length := Nat.mod_lt _ (by omega)
    have e : turned ls t ls.length = ls.drop (t % ls.length) ++ ls.take (t % ls.length) := by
      apply List.ext_getElem
      · simp [turned]; omega
      · intro i h1 h2
        have hi : i < ls.length := by simpa [turned] using h1
        have e1 : (turned ls t ls.length)[i] = at4 ls ((i + t) % ls.length) := by simp [turned]
        rw [e1]
        have hm : (i + t) % ls.length = (i + t % ls.length) % ls.length := by rw [Nat.add_mod, Nat.add_mod i (t % ls.length), Nat.mod_mod]
        rw [hm]
        by_cases hc : i < ls.length - t % ls.length
        · have hm2 : (i + t % ls.length) % ls.length = i + t % ls.length := Nat.mod_eq_of_lt (by omega)
          rw [hm2, List.getElem_append_left (by simp; omega)]
          simp [at4, show i + t % ls.length < ls.length by omega, Nat.add_comm]
        · have hm2 : (i + t % ls.length) % ls.length = i + t % ls.length - ls.length := by
            rw [Nat.mod_eq_sub_mod (by omega), Nat.mod_eq_of_lt (by omega)]
          rw [hm2, List.getElem_append_right (by simp; omega)]
          have h3 : i + t % ls.length - ls.length < ls.length := by omega
          simp [at4, h3]
          congr 1
          omega
    rw [e]
    have := List.perm_append_comm (l₁ := ls.drop (t % ls.length)) (l₂ := ls.take (t % ls.length))
    rw [List.take_append_drop] at this
    exact this

theorem take_succ4 (ls : List Key4) (i : Nat) (h : i < ls.length) : ls.take (i + 1) = ls.take i ++ [at4 ls i] := by
  rw [List.take_succ_eq_append_getElem h]; simp [at4, h]

/-- two heaps of the same keys have the same first one -/
theorem first_eq {ka kb : List Key4} (ha : IsHeap ka) (hb : IsHeap kb) (hp : ka.Perm kb) (h0 : 0 < ka.length) : at4 kb 0 = at4 ka 0 :=
  least_first hb hp.symm (at4_mem h0) (fun y hy => by obtain ⟨j, hj, e⟩ := mem_at4 hy; rw [← e]; exact ha.first j hj)

end Go.Proofs.Ythpcaamfcmjnmaa
