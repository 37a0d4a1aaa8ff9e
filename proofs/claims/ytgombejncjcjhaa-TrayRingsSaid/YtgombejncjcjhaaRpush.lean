/-
  What Push of tray's Ring comes to: one more int behind the others, or false where there are as many as may be.
  Conditions: the Ring's bound is at most 65536.
-/
import Derived.Test.YtgombejncjcjhaaGrow
namespace Go.Proofs.Ytgombejncjcjhaa
open Go.RowKit

theorem ring_push_full (g : Nat) (A : Option Addr) (ss : List Int) (f c m : Nat) (x : Int) (w : World) (h : RingAt w g A ss f c m) (hc : m ≤ c) :
    Calls Try.prog 36 #[.pointer (some ⟨g, 0, none⟩), .int .i64 x] w fun e w' => e = .returned (.bool false) ∧ ∃ k, w' = w.drewN k := by
  obtain ⟨c0, c1, c2, c3⟩ := h.cells
  clear h
  have hd : decide ((m : Int) ≤ (c : Int)) = true := by simp; omega
  have hi : (m : Int) ≤ (c : Int) := by omega
  go_enter Try.func36, Try.ntmps36
  go_wp2
  go_quiet (fail)
  go_wp2
  go_ret
  exact ⟨rfl, _, rfl⟩

/-- the Ring behind a store of one int more -/
theorem ring_after_push {w : World} {g r f c m p k : Nat} {x : Int} {ss : List Int} (h : RingAt w g (some ⟨r, 0, none⟩) ss f c m) (hr : IRow w r ss) (hgr : r ≠ g) (hc : c < ss.length) :
    RingAt (((w.drewN k).setCell ⟨r, p, none⟩ (.int .i64 x)).setCell ⟨g, 2, none⟩ (.int .i64 ((c : Int) + 1))) g (some ⟨r, 0, none⟩) (ss.set p x) f (c + 1) m := by
  refine ⟨?_, .inr ⟨r, rfl, ?_, hgr⟩, by rw [List.length_set]; exact h.hf, by rw [List.length_set]; omega, by rw [List.length_set]; exact h.hm⟩
  · have h1 : ((w.drewN k).setCell ⟨r, p, none⟩ (.int .i64 x)).heap[g]? = some (.cells #[.slice (some ⟨r, 0, none⟩) ss.length ss.length, .int .i64 f, .int .i64 c, .int .i64 m] 65 (0, 0)) :=
      (Below.heap_setCell (w.drewN k) _ _ _ (Ne.symm hgr)).trans h.blk
    rw [List.length_set, Joins.block_setCell (i := 2) h1]
    rfl
  · unfold IRow
    rw [Below.heap_setCell _ _ _ _ hgr]
    exact hr.put p x

set_option maxHeartbeats 2000000 in
theorem ring_push_room (g r : Nat) (ss : List Int) (f c m : Nat) (x : Int) (w : World) (h : RingAt w g (some ⟨r, 0, none⟩) ss f c m) (hr : IRow w r ss) (hgr : r ≠ g) (hc : c < ss.length) (hm : m ≤ 65536) :
    Calls Try.prog 36 #[.pointer (some ⟨g, 0, none⟩), .int .i64 x] w fun e w' => e = .returned (.bool true) ∧ RingAt w' g (some ⟨r, 0, none⟩) (ss.set ((f + c) % ss.length) x) f (c + 1) m ∧ Kept (RingUses g (some ⟨r, 0, none⟩)) w w' := by
  obtain ⟨c0, c1, c2, c3⟩ := h.cells
  have hnm := h.hm
  have hf : f < ss.length := by have := h.hf; omega
  have g2 := h.notFrozen 2
  have hgl := h.lt
  have hrl := hr.lt
  obtain ⟨p, hp⟩ : ∃ p, p = (f + c) % ss.length := ⟨_, rfl⟩
  have hpn : p < ss.length := by rw [hp]; exact Nat.mod_lt _ (by omega)
  have rc := hr.cell p hpn
  have rf := hr.notFrozen p
  generalize ss.getD p 0 = old at rc
  rw [← hp]
  have H := Lib.hid h
  have Hr := Lib.hid hr
  have Hc := Lib.hid hc
  have hpi : ((f : Int) + (c : Int)) % (ss.length : Int) = (p : Int) := by rw [hp, Int.natCast_emod, Int.natCast_add]
  clear h hr hp
  obtain ⟨n, hn⟩ : ∃ n, n = ss.length := ⟨_, rfl⟩
  rw [← hn] at c0 hnm hf hpn hpi hc
  have Hn := Lib.hid hn
  clear hn
  have hd : decide ((m : Int) ≤ (c : Int)) = false := by simp; omega
  have hd2 : (c : Int) < (m : Int) := by omega
  have hne : ((c : Int) == (n : Int)) = false := by rw [beq_eq_false_iff_ne]; omega
  have i1 : (0 : Int) ≤ (p : Int) := by omega
  have i2 : (p : Int) < (n : Int) := by omega
  have i3 : IntKind.i64.wrap ((f : Int) + (c : Int)) = (f : Int) + (c : Int) := IntWalk.i64_in _ (by omega)
  have i4 : (0 : Int) ≤ (f : Int) + (c : Int) := by omega
  have i5 : (n : Int) ≠ 0 := by omega
  go_enter Try.func36, Try.ntmps36
  go_wp2
  go_quiet (fail)
  go_wp2
  go_quiet (fail)
  go_wp2
  go_region
  go_wp2
  go_ret
  refine ⟨rfl, ?_, ?_⟩
  · exact ring_after_push H.out Hr.out hgr Hc.out
  · exact (((Kept.refl _ w).drewN _).setCell (p := ⟨r, p, none⟩) (.inr ⟨_, rfl, rfl⟩) _).setCell (p := ⟨g, 2, none⟩) (.inl rfl) _

theorem RingAt.irow {w : World} {g r f c m : Nat} {ss : List Int} (h : RingAt w g (some ⟨r, 0, none⟩) ss f c m) : IRow w r ss ∧ r ≠ g := by
  rcases h.row with ⟨_, h0⟩ | ⟨r', h0, h1, h2⟩
  · cases h0
  · have : r' = r := by simpa using h0.symm
    subst this; exact ⟨h1, h2⟩

set_option maxHeartbeats 2000000 in
theorem ring_push_grow (g r : Nat) (A : Option Addr) (ss s2 : List Int) (f c m : Nat) (x : Int) (w : World) (h : RingAt w g A ss f c m) (hc : c = ss.length) (hcm : c < m) (hm : m ≤ 65536) (hc2 : c < s2.length)
    (hG : ∀ k, Calls Try.prog 44 #[.pointer (some ⟨g, 0, none⟩)] (w.drewN k) fun e w' => e = .returned (.tuple #[]) ∧ RingAt w' g (some ⟨r, 0, none⟩) s2 0 c m ∧ Kept (RingUses g A) w w') (hrw : w.heap.size ≤ r) :
    Calls Try.prog 36 #[.pointer (some ⟨g, 0, none⟩), .int .i64 x] w fun e w' => e = .returned (.bool true) ∧ RingAt w' g (some ⟨r, 0, none⟩) (s2.set c x) 0 (c + 1) m ∧ Kept (RingUses g A) w w' := by
  obtain ⟨c0, c1, c2, c3⟩ := h.cells
  rw [← hc] at c0
  have HG := Lib.hid hG
  clear h hG hc
  have hd : decide ((m : Int) ≤ (c : Int)) = false := by simp; omega
  have hd2 : (c : Int) < (m : Int) := by omega
  go_enter Try.func36, Try.ntmps36
  go_wp2
  go_quiet (fail)
  go_wp2
  go_quiet (fail)
  go_wp2_with fail
  refine (HG.out _).mono ?_
  rintro e w1 ⟨rfl, h1, hk1⟩
  have H1 := Lib.hid h1
  have K1 := Lib.hid hk1
  obtain ⟨hr1, hgr1⟩ := h1.irow
  have Hr1 := Lib.hid hr1
  clear c0 c1 c2 c3
  obtain ⟨c0, c1, c2, c3⟩ := h1.cells
  have hnm := h1.hm
  have g2 := h1.notFrozen 2
  have hgl := h1.lt
  have hrl := hr1.lt
  have rc := hr1.cell c hc2
  have rf := hr1.notFrozen c
  generalize s2.getD c 0 = old at rc
  have Hc2 := Lib.hid hc2
  clear h1 hk1 hr1
  obtain ⟨n, hn⟩ : ∃ n, n = s2.length := ⟨_, rfl⟩
  rw [← hn] at c0 hnm hc2
  clear hn
  have hpi : (c : Int) % (n : Int) = (c : Int) := Int.emod_eq_of_lt (by omega) (by omega)
  have i1 : (0 : Int) ≤ (c : Int) := by omega
  have i2 : (c : Int) < (n : Int) := by omega
  have i5 : (n : Int) ≠ 0 := by omega
  have hf0 : ((0 : Nat) : Int) = 0 := rfl
  simp only [hf0] at c1
  clear hf0
  go_wp2
  go_region
  go_wp2
  go_ret
  refine ⟨rfl, ?_, ?_⟩
  · exact ring_after_push (k := 1) H1.out Hr1.out hgr1 Hc2.out
  · exact ((K1.out.drewN 1).setNew (p := ⟨r, c, none⟩) hrw _).setCell (p := ⟨g, 2, none⟩) (.inl rfl) _

end Go.Proofs.Ytgombejncjcjhaa
