/-
  What the laws of layer 9 have at hand: the document's own example; few; a net that is made of numbers, run.
  Conditions: none beyond each theorem's own.
-/
import Derived.Test.YtpbbdnicafifpaaRunQ
import Derived.Test.YtpbbdnicafifpaaMakeW
import Derived.Test.YtpbbdnicafifpaaInBx
import Derived.Test.YtpbbdnicafifpaaMarkR
namespace Go.Proofs.Ytpbbdnicafifpaa
open Go.RowKit
set_option linter.unusedVariables false

def netJ : Nt := ⟨[⟨{ data := #[112] }, 1⟩], [⟨{ data := #[116] }, 2, 0, [(0, 1)], [], [(0, 1)]⟩]⟩
theorem netJ_check : checkN netJ = 0 := by decide +kernel
theorem netJ_run : runN netJ 5 = (⟨[(0, 0), (2, 0), (4, 0)], [0], [⟨6, 0, 1⟩]⟩, 4, 0) := by kernel_rfl
theorem netJ_way : wayL 1 [⟨6, 0, 1⟩] = [1] := by kernel_rfl
theorem netJ_names : ∀ s ∈ netJ.names, s.size ≤ 9223372036854775807 := by
  intro s hs
  simp [Nt.names, netJ] at hs
  rcases hs with rfl | rfl <;> decide

/-- the example's net, laid cell by cell -/
def worldJ (w : World) : World := (((w.alloc (.cells #[.string { data := #[112] }, .int .i64 1] 57)).alloc (.cells #[.int .i64 0, .int .i64 1] 76)).alloc (.cells #[.int .i64 0, .int .i64 1] 76)).alloc (.cells #[.string { data := #[116] }, .int .i64 2, .int .i64 0, .slice (some ⟨w.heap.size + 1, 0, none⟩) 1 1, .slice none 0 0, .slice (some ⟨w.heap.size + 2, 0, none⟩) 1 1] 79)
theorem worldJ_below (w : World) : Below w.heap.size w (worldJ w) := ((((Below.refl _ w).alloc (Nat.le_refl _) _).alloc (by simp) _).alloc (by simp; omega) _).alloc (by simp; omega) _
theorem netJ_at (w : World) : NetAt (worldJ w) (.slice (some ⟨w.heap.size, 0, none⟩) 1 1) (.slice (some ⟨w.heap.size + 3, 0, none⟩) 1 1) netJ := by
  have k0 : CellsAre (worldJ w) w.heap.size 0 [.string { data := #[112] }, .int .i64 1] := ⟨by unfold worldJ; go_simp, by unfold worldJ; go_simp, trivial⟩
  have k1 : CellsAre (worldJ w) (w.heap.size + 1) 0 [.int .i64 0, .int .i64 1] := ⟨by unfold worldJ; go_simp, by unfold worldJ; go_simp, trivial⟩
  have k2 : CellsAre (worldJ w) (w.heap.size + 2) 0 [.int .i64 0, .int .i64 1] := ⟨by unfold worldJ; go_simp, by unfold worldJ; go_simp, trivial⟩
  have k3 : CellsAre (worldJ w) (w.heap.size + 3) 0 [.string { data := #[116] }, .int .i64 2, .int .i64 0, .slice (some ⟨w.heap.size + 1, 0, none⟩) 1 1, .slice none 0 0, .slice (some ⟨w.heap.size + 2, 0, none⟩) 1 1] := ⟨by unfold worldJ; go_simp, by unfold worldJ; go_simp, by unfold worldJ; go_simp, by unfold worldJ; go_simp, by unfold worldJ; go_simp, by unfold worldJ; go_simp, trivial⟩
  have hsz : (worldJ w).heap.size = w.heap.size + 4 := by unfold worldJ; simp
  refine netAt_mk (k0.row (by omega) rfl (Nat.le_refl _) (by omega)) [(⟨{ data := #[116] }, 2, 0, [(0, 1)], [], [(0, 1)]⟩, .slice (some ⟨w.heap.size + 1, 0, none⟩) 1 1, .slice none 0 0, .slice (some ⟨w.heap.size + 2, 0, none⟩) 1 1)] rfl (k3.row (by omega) rfl (Nat.le_refl _) (by omega)) ?_
  intro x hx
  rw [List.mem_singleton] at hx
  subst hx
  exact ⟨k1.row (by omega) rfl (Nat.le_refl _) (by omega), arcsAt_nil _, k2.row (by omega) rfl (Nat.le_refl _) (by omega)⟩

theorem rbest9 {w : World} {n : Nt} {ap at_ am : Option Addr} {cp ct np nt nm cm : Nat} {m : List Int} (hnt : nt = n.trans.length) (hnm : nm = m.length) (h : NetAt w (.slice ap np cp) (.slice at_ nt ct) n) (hM : IntsAt w (.slice am nm cm) m) (hF : FitsN m n) (q : Int) (hq : q = bestTo m n.trans nt) :
    Calls Try.prog 51 #[.agg #[.slice ap np cp, .slice at_ nt ct], .slice am nm cm] w fun e w' => e = .returned (.int .i64 q) ∧ Below w.heap.size w w' := by
  have hb : Below w.heap.size w (w.alloc (.cells #[.slice ap np cp, .slice at_ nt ct] 31)) := (Below.refl _ _).alloc (Nat.le_refl _) _
  have HB := Lib.hid (rbest_any hnt hnm (h.below hb) (hM.below hb) hF q hq)
  have Hb := Lib.hid hb
  clear hb hnt hnm h hM hF hq
  go_enter Try.func51, Try.ntmps51
  go_wp2_with (go_at_call 72; refine HB.out.mono ?_; rintro e w1 ⟨rfl, hb1⟩; have Hb1 := Lib.hid hb1; clear hb1)
  go_ret
  exact ⟨rfl, Hb.out.trans (Hb1.out.mono Hb.out.size)⟩

theorem makeN_names9 (ts : List Nat) (acs : List Ac) : ∀ s ∈ (makeN ts acs).names, s.size ≤ 9223372036854775807 := by
  intro s hs
  rw [makeN_names] at hs
  have := mkNames_size _ (by have := cntP_bd ts; omega) _ (by have := cntT_bd acs; omega) s hs
  omega

/-- a run that is over: nothing more may fire -/
theorem times_rest {n : Nt} (hn : NOk n) (h : Int) : ∀ (k : Nat) (t : Int) (s : St), Inv n t s → t ≤ h → (h - t).toNat + 1 ≤ k → (times n.trans h k t s).2.2 = 0 → bestTo (times n.trans h k t s).1.m n.trans n.trans.length < 0
  | 0, t, s, hI, ht, hk, he => by omega
  | k + 1, t, s, hI, ht, hk, he => by
    obtain ⟨i1, i2, i3⟩ := instAll_inv hn hI
    by_cases hr : (instAll n.trans t s).2 = 0
    · rw [times_go hr] at he ⊢
      split
      · rename_i hc
        rw [if_pos hc] at he
        have hx := next_inv i1 i2 hc.1
        exact times_rest hn h k _ _ hx.2.1 hc.2 (by omega) he
      · exact i3 hr
    · rw [times_err hr] at he; exact absurd he hr
theorem runN_rest {n : Nt} (hn : NOk n) {h : Int} (h0 : 0 ≤ h) (he : (runN n h).2.2 = 0) : bestTo (runN n h).1.m n.trans n.trans.length < 0 := by
  unfold runN at he ⊢
  rw [if_pos h0] at he ⊢
  exact times_rest hn h _ _ _ (start_inv hn) h0 (by omega) he
end Go.Proofs.Ytpbbdnicafifpaa
