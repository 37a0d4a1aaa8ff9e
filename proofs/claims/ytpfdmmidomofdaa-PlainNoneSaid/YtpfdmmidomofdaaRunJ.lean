/-
  What the laws of layer 9 have at hand: the document's own example; few; a net that is made of numbers, run.
  Conditions: none beyond each theorem's own.
-/
import Derived.Test.YtpfdmmidomofdaaRunI
import Derived.Test.YtpfdmmidomofdaaMakeW
import Derived.Test.YtpfdmmidomofdaaInBx
import Derived.Test.YtpfdmmidomofdaaMarkR
namespace Go.Proofs.Ytpfdmmidomofdaa
open Go.RowKit
set_option linter.unusedVariables false

def netJ : Nt := ⟨[⟨{ data := #[112] }, 1⟩], [⟨{ data := #[116] }, 2, 0, [(0, 1)], [], [(0, 1)]⟩]⟩
theorem netJ_check : checkN netJ = 0 := by decide +kernel
theorem netJ_run : runN netJ 5 = (⟨[(0, 0), (2, 0), (4, 0)], [0], [⟨6, 0, 1⟩]⟩, 4, 0) := by kernel_rfl
theorem netJ_way : wayL 1 [⟨6, 0, 1⟩] = [1] := by kernel_rfl
theorem netJ_names : ∀ s ∈ netJ.names, s.size ≤ 9223372036854775807 := by
  intro s hs
  simp [Nt.names, netJ] at hs
  rcases hs with rfl | rfl <;> decide

/-- the example's net, laid cell by cell -/
def worldJ (w : World) : World := (((w.alloc (.cells #[.string { data := #[112] }, .int .i64 1] 50)).alloc (.cells #[.int .i64 0, .int .i64 1] 52)).alloc (.cells #[.int .i64 0, .int .i64 1] 52)).alloc (.cells #[.string { data := #[116] }, .int .i64 2, .int .i64 0, .slice (some ⟨w.heap.size + 1, 0, none⟩) 1 1, .slice none 0 0, .slice (some ⟨w.heap.size + 2, 0, none⟩) 1 1] 46)
theorem worldJ_below (w : World) : Below w.heap.size w (worldJ w) := ((((Below.refl _ w).alloc (Nat.le_refl _) _).alloc (by simp) _).alloc (by simp; omega) _).alloc (by simp; omega) _
theorem netJ_at (w : World) : NetAt (worldJ w) (.slice (some ⟨w.heap.size, 0, none⟩) 1 1) (.slice (some ⟨w.heap.size + 3, 0, none⟩) 1 1) netJ := by
  have k0 : CellsAre (worldJ w) w.heap.size 0 [.string { data := #[112] }, .int .i64 1] := ⟨by unfold worldJ; go_simp, by unfold worldJ; go_simp, trivial⟩
  have k1 : CellsAre (worldJ w) (w.heap.size + 1) 0 [.int .i64 0, .int .i64 1] := ⟨by unfold worldJ; go_simp, by unfold worldJ; go_simp, trivial⟩
  have k2 : CellsAre (worldJ w) (w.heap.size + 2) 0 [.int .i64 0, .int .i64 1] := ⟨by unfold worldJ; go_simp, by unfold worldJ; go_simp, trivial⟩
  have k3 : CellsAre (worldJ w) (w.heap.size + 3) 0 [.string { data := #[116] }, .int .i64 2, .int .i64 0, .slice (some ⟨w.heap.size + 1, 0, none⟩) 1 1, .slice none 0 0, .slice (some ⟨w.heap.size + 2, 0, none⟩) 1 1] := ⟨by unfold worldJ; go_simp, by unfold worldJ; go_simp, by unfold worldJ; go_simp, by unfold worldJ; go_simp, by unfold worldJ; go_simp, by unfold worldJ; go_simp, trivial⟩
  have hsz : (worldJ w).heap.size = w.heap.size + 4 := by unfold worldJ; simp
  refine netAt_mk (k0.row (by omega) rfl (Nat.le_refl _) (by omega)) [(⟨{ data := #[116] }, 2, 0, [(0, 1)], [], [(0, 1)]⟩, .slice (some ⟨w.heap.size + 1, 0, none⟩) 1 1, .slice none 0 0, .slice (some ⟨w.heap.size + 2, 0, none⟩) 1 1)] rfl (k3.row (by omega) rfl (Nat.le_refl _) (by omega)) ?_
  intro x hx
  rw [List.mem_singleton] at hx
  subst hx
  exact ⟨k1.row (by omega) rfl (Nat.le_refl _) (by omega), arcsAt_nil _, k2.row (by omega) rfl (Nat.le_refl _) (by omega)⟩

set_option maxRecDepth 100000 in
set_option maxHeartbeats 4000000 in
theorem awake9 (w : World) : Calls Try.prog 12 #[] w fun e w' => e = .returned (.bool true) ∧ Below w.heap.size w w' := by
  have hb0 := worldJ_below w
  have hnew : Below (worldJ w).heap.size (worldJ w) ((worldJ w).alloc (.cells #[.slice (some ⟨w.heap.size, 0, none⟩) 1 1, .slice (some ⟨w.heap.size + 3, 0, none⟩) 1 1] 31)) := (Below.refl _ _).alloc (Nat.le_refl _) _
  have hrun := run_any (h := 5) (n := netJ) rfl rfl ((netJ_at w).below hnew) netJ_names netJ_check
  rw [netJ_run] at hrun
  have Hb1 := Lib.hid (hb0.trans (hnew.mono hb0.size))
  have Hrun := Lib.hid hrun
  simp only [worldJ] at Hb1 Hrun
  clear hb0 hnew hrun
  go_enter Try.func12, Try.ntmps12
  go_wp2_with fail
  refine Hrun.out.mono ?_
  rintro e w1 ⟨al, nl, cl, bm, cm, bw, nw, rfl, hnl, hnw, ⟨r1, r2, r3⟩, hb⟩
  have Hb2 := Lib.hid (Hb1.out.trans (hb.mono Hb1.out.size))
  have hnl3 : nl = 3 := hnl
  have hnw1 : nw = 1 := hnw
  subst hnl3 hnw1
  obtain ⟨bl, ol, rfl, hbl, c4, _⟩ := FisAt.at_ r1 (i := 2) (x := (4, 0)) rfl
  have r3' : IntsAt w1 (.slice (some ⟨bw, 0, none⟩) 1 1) [1] := r3
  obtain ⟨b2, o2, e2, hbw, c1⟩ := IntsAt.at_ r3' (i := 0) (x := 1) rfl
  injection e2 with e2
  injection e2 with e2 e3 _
  subst e2 e3
  simp only [resV]
  have Hb3 := Lib.hid (Hb2.out.trans (((Below.refl _ w1).alloc (Nat.le_refl _) (.cells #[.slice (some ⟨bl, ol, none⟩) 3 cl, .slice (some ⟨bm, 0, none⟩) 1 cm, .slice (some ⟨bw, 0, none⟩) 1 1, .int .i64 4] 36)).mono Hb2.out.size))
  clear hb r1 r2 r3 r3' hnl hnw Hrun
  go_wp2
  go_ret
  exact ⟨rfl, Hb3.out⟩

set_option maxRecDepth 100000 in
set_option maxHeartbeats 1000000 in
theorem few_any {w : World} {aT aA : Option Addr} {cT cA nT nA : Nat} (q : Bool) (hq : q = (decide (nT ≤ 60) && decide (nA ≤ 12))) :
    Calls Try.prog 13 #[.agg #[.slice aT nT cT, .slice aA nA cA]] w fun e w' => e = .returned (.bool q) ∧ Below w.heap.size w w' := by
  have Hb := Lib.hid ((Below.refl w.heap.size w).alloc (Nat.le_refl _) (.cells #[.slice aT nT cT, .slice aA nA cA] 25))
  by_cases h1 : nT ≤ 60
  · have h1i : (nT : Int) ≤ 60 := by omega
    by_cases h2 : nA ≤ 12
    · have h2i : (nA : Int) ≤ 12 := by omega
      obtain rfl : q = true := by rw [hq]; simp [h1, h2]
      clear hq
      go_enter Try.func13, Try.ntmps13
      go_wp2
      go_ret
      exact ⟨rfl, Hb.out⟩
    · have h2i : ¬ (nA : Int) ≤ 12 := by omega
      obtain rfl : q = false := by rw [hq]; simp [h2]
      clear hq
      go_enter Try.func13, Try.ntmps13
      go_wp2
      go_ret
      exact ⟨rfl, Hb.out⟩
  · have h1i : ¬ (nT : Int) ≤ 60 := by omega
    obtain rfl : q = false := by rw [hq]; simp [h1]
    clear hq
    go_enter Try.func13, Try.ntmps13
    go_wp2
    go_ret
    exact ⟨rfl, Hb.out⟩

theorem rbest9 {w : World} {n : Nt} {ap at_ am : Option Addr} {cp ct np nt nm cm : Nat} {m : List Int} (hnt : nt = n.trans.length) (hnm : nm = m.length) (h : NetAt w (.slice ap np cp) (.slice at_ nt ct) n) (hM : IntsAt w (.slice am nm cm) m) (hF : FitsN m n) (q : Int) (hq : q = bestTo m n.trans nt) :
    Calls Try.prog 37 #[.agg #[.slice ap np cp, .slice at_ nt ct], .slice am nm cm] w fun e w' => e = .returned (.int .i64 q) ∧ Below w.heap.size w w' := by
  have hb : Below w.heap.size w (w.alloc (.cells #[.slice ap np cp, .slice at_ nt ct] 31)) := (Below.refl _ _).alloc (Nat.le_refl _) _
  have HB := Lib.hid (rbest_any hnt hnm (h.below hb) (hM.below hb) hF q hq)
  have Hb := Lib.hid hb
  clear hb hnt hnm h hM hF hq
  go_enter Try.func37, Try.ntmps37
  go_wp2_with (go_at_call 61; refine HB.out.mono ?_; rintro e w1 ⟨rfl, hb1⟩; have Hb1 := Lib.hid hb1; clear hb1)
  go_ret
  exact ⟨rfl, Hb.out.trans (Hb1.out.mono Hb.out.size)⟩

theorem makeN_names9 (ts : List Nat) (acs : List Ac) : ∀ s ∈ (makeN ts acs).names, s.size ≤ 9223372036854775807 := by
  intro s hs
  rw [makeN_names] at hs
  have := mkNames_size _ (by have := cntP_bd ts; omega) _ (by have := cntT_bd acs; omega) s hs
  omega

/-- a run that is over: nothing more may fire -/
theorem times_rest {n : Nt} (hn : NOk n) (h : Int) : ∀ (k : Nat) (t : Int) (s : St), Inv n t s → t ≤ h → (h - t).toNat + 1 ≤ k → (times n.trans h k t s).2.2 = 0 → bestTo (times n.trans h k t s).1.m n.trans n.trans.length < 0
  | 0, t, s, hI, ht, hk, he => by omega
  | k + 1, t, s, hI, ht, hk, he => by
    obtain ⟨i1, i2, i3⟩ := instAll_inv hn hI
    by_cases hr : (instAll n.trans t s).2 = 0
    · rw [times_go hr] at he ⊢
      split
      · rename_i hc
        rw [if_pos hc] at he
        have hx := next_inv i1 i2 hc.1
        exact times_rest hn h k _ _ hx.2.1 hc.2 (by omega) he
      · exact i3 hr
    · rw [times_err hr] at he; exact absurd he hr
theorem runN_rest {n : Nt} (hn : NOk n) {h : Int} (h0 : 0 ≤ h) (he : (runN n h).2.2 = 0) : bestTo (runN n h).1.m n.trans n.trans.length < 0 := by
  unfold runN at he ⊢
  rw [if_pos h0] at he ⊢
  exact times_rest hn h _ _ _ (start_inv hn) h0 (by omega) he
end Go.Proofs.Ytpfdmmidomofdaa
