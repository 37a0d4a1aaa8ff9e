/-
  What the laws of layer 10 ask first: the document's own example.
  Conditions: none.
-/
import Derived.Test.YtpbbdnicafifpaaEgT
import Derived.Test.YtpbbdnicafifpaaRunJ
namespace Go.Proofs.Ytpbbdnicafifpaa
open Go.RowKit
set_option linter.unusedVariables false

set_option maxRecDepth 100000 in
set_option maxHeartbeats 4000000 in
theorem awake10 (w : World) : Calls Try.prog 27 #[] w fun e w' => e = .returned (.bool true) ∧ Below w.heap.size w w' := by
  have hb0 := worldJ_below w
  have hnew : Below (worldJ w).heap.size (worldJ w) ((worldJ w).alloc (.cells #[.slice (some ⟨w.heap.size, 0, none⟩) 1 1, .slice (some ⟨w.heap.size + 3, 0, none⟩) 1 1] 31)) := (Below.refl _ _).alloc (Nat.le_refl _) _
  have hrun := srun_any (h := 5) (n := netJ) rfl rfl ((netJ_at w).below hnew) netJ_names netJ_check
  unfold SRes at hrun
  rw [netJ_run] at hrun
  have Hb1 := Lib.hid (hb0.trans (hnew.mono hb0.size))
  have Hrun := Lib.hid hrun
  simp only [worldJ] at Hb1 Hrun
  clear hb0 hnew hrun
  go_enter Try.func27, Try.ntmps27
  go_wp2_with fail
  refine Hrun.out.mono ?_
  rintro e w1 ⟨al, nl, cl, am, cm, aw, cw, rfl, hnl, ⟨r1, r2, r3⟩, hb⟩
  have Hb2 := Lib.hid (Hb1.out.trans (hb.mono Hb1.out.size))
  have hnl3 : nl = 3 := hnl
  subst hnl3
  obtain ⟨bl, ol, rfl, hbl, c4, _⟩ := FisAt.at_ r1 (i := 2) (x := (4, 0)) rfl
  simp only [resV]
  have Hb3 := Lib.hid (Hb2.out.trans (((Below.refl _ w1).alloc (Nat.le_refl _) (.cells #[.slice (some ⟨bl, ol, none⟩) 3 cl, .slice am 1 cm, .slice aw 1 cw, .int .i64 4] 51)).mono Hb2.out.size))
  clear hb r1 r2 r3 hnl Hrun
  go_wp2
  go_ret
  exact ⟨rfl, Hb3.out⟩
end Go.Proofs.Ytpbbdnicafifpaa
