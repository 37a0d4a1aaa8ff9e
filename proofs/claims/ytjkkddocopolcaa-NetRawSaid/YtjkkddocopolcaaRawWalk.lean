/-
  The walk of the law NetRaw: for every net it returns true.
  Conditions: none beyond each theorem's own.
-/
import Derived.Test.YtjkkddocopolcaaNetSmall
import Derived.Test.YtjkkddocopolcaaRefCheck
namespace Go.Proofs.Ytjkkddocopolcaa
open Go.RowKit
set_option linter.unusedVariables false

set_option maxRecDepth 100000 in
set_option maxHeartbeats 4000000 in
theorem raw_law {w : World} {n : Nt} {ap at_ : Option Addr} {cp ct : Nat} (h : NetAt w (.slice ap n.places.length cp) (.slice at_ n.trans.length ct) n) :
    Calls Try.prog 3 #[.agg #[.slice ap n.places.length cp, .slice at_ n.trans.length ct]] w fun e w' => e = .returned (.bool true) ∧ Below w.heap.size w w' := by
  have Hsm : Hid (∀ W : World, Below w.heap.size w W → Calls Try.prog 11 #[.agg #[.slice ap n.places.length cp, .slice at_ n.trans.length ct]] W fun e w' => e = .returned (.bool (!bigN n)) ∧ Below W.heap.size W w') := Lib.hid (fun W hW => small_any (h.below hW))
  cases hbig : bigN n with
  | true =>
    rw [hbig] at Hsm
    obtain ⟨np, hnp⟩ : ∃ k, k = n.places.length := ⟨_, rfl⟩
    obtain ⟨nt, hnt⟩ : ∃ k, k = n.trans.length := ⟨_, rfl⟩
    rw [← hnp, ← hnt] at Hsm ⊢
    clear h hnp hnt hbig
    go_enter Try.func3, Try.ntmps3
    go_wp2_with fail
    refine (awake_any _).mono ?_
    rintro e w1 ⟨rfl, hb⟩
    have hi : InBox w w1 (.slice ap np cp) (.slice at_ nt ct) := (InBox.start _ _ _).go hb
    have b0 := hi.c0
    have b1 := hi.c1
    have Hi := Lib.hid hi
    clear hb hi
    go_wp2_with fail
    refine (Hsm.out _ Hi.out.old).mono ?_
    rintro e w2 ⟨rfl, hb⟩
    have Hi2 := Lib.hid (Hi.out.go hb)
    clear hb
    go_wp2_with fail
    refine (awake_any _).mono ?_
    rintro e w3 ⟨rfl, hb⟩
    have Hi3 := Lib.hid (Hi2.out.go hb)
    clear hb
    go_wp2
    go_ret
    exact ⟨rfl, Hi3.out.old⟩
  | false =>
    rw [hbig] at Hsm
    have hnm := small_names hbig
    have Hc1 : Hid (∀ W : World, Below w.heap.size w W → Calls Try.prog 12 #[.agg #[.slice ap n.places.length cp, .slice at_ n.trans.length ct]] W fun e w' => e = .returned (.int .i64 (checkN n)) ∧ Below W.heap.size W w') := Lib.hid (fun W hW => check_any (h.below hW) (fun s hs => by have := hnm s hs; omega))
    have Hc2 : Hid (∀ W : World, Below w.heap.size w W → Calls Try.prog 13 #[.agg #[.slice ap n.places.length cp, .slice at_ n.trans.length ct]] W fun e w' => e = .returned (.int .i64 (checkN n)) ∧ Below W.heap.size W w') := Lib.hid (fun W hW => rcheck_any (h.below hW) (fun s hs => by have := hnm s hs; omega))
    obtain ⟨np, hnp⟩ : ∃ k, k = n.places.length := ⟨_, rfl⟩
    obtain ⟨nt, hnt⟩ : ∃ k, k = n.trans.length := ⟨_, rfl⟩
    obtain ⟨q, hq⟩ : ∃ q, q = checkN n := ⟨_, rfl⟩
    rw [← hnp, ← hnt] at Hsm Hc1 Hc2 ⊢
    rw [← hq] at Hc1 Hc2
    clear h hnp hnt hbig hnm hq
    go_enter Try.func3, Try.ntmps3
    go_wp2_with fail
    refine (awake_any _).mono ?_
    rintro e w1 ⟨rfl, hb⟩
    have hi : InBox w w1 (.slice ap np cp) (.slice at_ nt ct) := (InBox.start _ _ _).go hb
    have b0 := hi.c0
    have b1 := hi.c1
    have Hi := Lib.hid hi
    clear hb hi
    go_wp2_with fail
    refine (Hsm.out _ Hi.out.old).mono ?_
    rintro e w2 ⟨rfl, hb⟩
    have Hi2 := Lib.hid (Hi.out.go hb)
    have hz := Hi2.out.size
    clear hb b0 b1
    go_wp2
    have n0 := fun p : NewBy w2 => NewBy.cell (o := 0) hz Hi2.out.c0 p
    have n1 := fun p : NewBy w2 => NewBy.cell (o := 1) hz Hi2.out.c1 p
    have hp := fun p : NewBy w2 => (Hi2.out.go p.below).old
    have Hp := Lib.hid hp
    clear hp
    refine wp_region_new (by kernel_rfl) (by kernel_rfl) ?_
    repeat (go_big_quiet_step (first | (go_at_call 12; exact Calls.new_of (Hc1.out _ (Hp.out _))) | (go_at_call 13; exact Calls.new_of (Hc2.out _ (Hp.out _)))))
    refine wpQuiet_nil ?_
    intro wz hzz
    obtain ⟨pz, hzz⟩ := hzz
    subst hzz
    go_wp2
    go_ret
    exact ⟨by simp, Hp.out pz⟩
end Go.Proofs.Ytjkkddocopolcaa
