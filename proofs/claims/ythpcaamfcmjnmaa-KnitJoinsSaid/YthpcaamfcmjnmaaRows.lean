/-
  No cell of these rows narrows 'for every input' (looked for: loops, veiled, ifaces, maps, wideKeys, modest, calm, conditions, laid).
  DERIVED. THE GIVEN ROWS OF THIS SEAT. 6 by the template 'for every input the law returns true; each argument reads behind the call as it read before'; 0 by the template 'total and deterministic' (their statements: YthpcaamfcmjnmaaTotals.lean).
  GIVEN WITH THE SEED: the statements are not yours to turn. If you find one false, say at which input.
  Laid BY PROGRAM, IN A SANDBOX (cutbox-rows.mjs): the forced cells as the released guide's own fill.sh prints them over the translation d9b807de5fc78b12… (all of the seat's roots in one cut). By AI agents, Wed Nov 11 2026. No macro, syntax, notation, axiom, sorry.
-/
import Derived.Test.YthpcaamfcmjnmaaChecked
import GoSem.Claim
import GoSem.ClaimJoined
import GoSem.ClaimMapViews
import Derived.JoinedTies
import Derived.KernelRfl
namespace Go.Proofs.Ythpcaamfcmjnmaa
/- THE CELL 'sum', in the pinned program and in every row, IS THE sha256 OF THE DUMP (.gsa) THAT YthpcaamfcmjnmaaProg.lean LOADS. Nothing in Lean hashes anything: it is a label: what it is worth is what the hold of that sum in a sandbox is worth. -/
noncomputable def Try.pinned : Pinned := { name := "ythpcaamfcmjnmaa", sum := "d9b807de5fc78b12651bca52d67b034f9cd3a07a0f21d8d068c0862799fc1c38", checked := Try.checked }
namespace Rows
def none {H : Type} : Left H := { results := [], args := [] }

/-- 'marblerunlaw02.TrayHeaps': WHATEVER THE INPUT: true; the input reads as it did. -/
def trayHeapsSpec : ChangeSpec := { name := "trayHeaps", fn := fun _ => fun
  | [d1, d2] => { results := [.lit (.bool true)], args := [d1, d2] }
  | _ => none }
def trayHeapsRow : OpenClaim := { program := "ythpcaamfcmjnmaa", sum := "d9b807de5fc78b12651bca52d67b034f9cd3a07a0f21d8d068c0862799fc1c38", func := "marblerun/marblerunlaw02.TrayHeaps", spec := "trayHeaps", apart := false }
def TrayHeapsSaid : Prop := trayHeapsRow.holds Try.pinned (OpenSpec.ofChange trayHeapsSpec)

/-- ITS FALSE NEIGHBOUR: 'it returns false'. Refute it at one input. -/
def trayHeapsWrong : ChangeSpec := { name := "trayHeaps", fn := fun _ => fun
  | [d1, d2] => { results := [.lit (.bool false)], args := [d1, d2] }
  | _ => none }
def TrayHeapsWrongFalsely : Prop := trayHeapsRow.holds Try.pinned (OpenSpec.ofChange trayHeapsWrong)

/-- 'marblerunlaw03.KnitJoins': WHATEVER THE INPUT: true; the input reads as it did. -/
def knitJoinsSpec : ChangeSpec := { name := "knitJoins", fn := fun _ => fun
  | [d1, d2, d3] => { results := [.lit (.bool true)], args := [d1, d2, d3] }
  | _ => none }
def knitJoinsRow : OpenClaim := { program := "ythpcaamfcmjnmaa", sum := "d9b807de5fc78b12651bca52d67b034f9cd3a07a0f21d8d068c0862799fc1c38", func := "marblerun/marblerunlaw03.KnitJoins", spec := "knitJoins", apart := false }
def KnitJoinsSaid : Prop := knitJoinsRow.holds Try.pinned (OpenSpec.ofChange knitJoinsSpec)

/-- ITS FALSE NEIGHBOUR: 'it returns false'. Refute it at one input. -/
def knitJoinsWrong : ChangeSpec := { name := "knitJoins", fn := fun _ => fun
  | [d1, d2, d3] => { results := [.lit (.bool false)], args := [d1, d2, d3] }
  | _ => none }
def KnitJoinsWrongFalsely : Prop := knitJoinsRow.holds Try.pinned (OpenSpec.ofChange knitJoinsWrong)

/-- 'marblerunlaw03.KnitEnds': WHATEVER THE INPUT: true; the input reads as it did. -/
def knitEndsSpec : ChangeSpec := { name := "knitEnds", fn := fun _ => fun
  | [d1, d2] => { results := [.lit (.bool true)], args := [d1, d2] }
  | _ => none }
def knitEndsRow : OpenClaim := { program := "ythpcaamfcmjnmaa", sum := "d9b807de5fc78b12651bca52d67b034f9cd3a07a0f21d8d068c0862799fc1c38", func := "marblerun/marblerunlaw03.KnitEnds", spec := "knitEnds", apart := false }
def KnitEndsSaid : Prop := knitEndsRow.holds Try.pinned (OpenSpec.ofChange knitEndsSpec)

/-- ITS FALSE NEIGHBOUR: 'it returns false'. Refute it at one input. -/
def knitEndsWrong : ChangeSpec := { name := "knitEnds", fn := fun _ => fun
  | [d1, d2] => { results := [.lit (.bool false)], args := [d1, d2] }
  | _ => none }
def KnitEndsWrongFalsely : Prop := knitEndsRow.holds Try.pinned (OpenSpec.ofChange knitEndsWrong)

/-- 'marblerunlaw03.KnitRow': WHATEVER THE INPUT: true; the input reads as it did. -/
def knitRowSpec : ChangeSpec := { name := "knitRow", fn := fun _ => fun
  | [d1, d2] => { results := [.lit (.bool true)], args := [d1, d2] }
  | _ => none }
def knitRowRow : OpenClaim := { program := "ythpcaamfcmjnmaa", sum := "d9b807de5fc78b12651bca52d67b034f9cd3a07a0f21d8d068c0862799fc1c38", func := "marblerun/marblerunlaw03.KnitRow", spec := "knitRow", apart := false }
def KnitRowSaid : Prop := knitRowRow.holds Try.pinned (OpenSpec.ofChange knitRowSpec)

/-- ITS FALSE NEIGHBOUR: 'it returns false'. Refute it at one input. -/
def knitRowWrong : ChangeSpec := { name := "knitRow", fn := fun _ => fun
  | [d1, d2] => { results := [.lit (.bool false)], args := [d1, d2] }
  | _ => none }
def KnitRowWrongFalsely : Prop := knitRowRow.holds Try.pinned (OpenSpec.ofChange knitRowWrong)

/-- 'marblerunlaw03.KnitCounts': WHATEVER THE INPUT: true; the input reads as it did. -/
def knitCountsSpec : ChangeSpec := { name := "knitCounts", fn := fun _ => fun
  | [d1, d2] => { results := [.lit (.bool true)], args := [d1, d2] }
  | _ => none }
def knitCountsRow : OpenClaim := { program := "ythpcaamfcmjnmaa", sum := "d9b807de5fc78b12651bca52d67b034f9cd3a07a0f21d8d068c0862799fc1c38", func := "marblerun/marblerunlaw03.KnitCounts", spec := "knitCounts", apart := false }
def KnitCountsSaid : Prop := knitCountsRow.holds Try.pinned (OpenSpec.ofChange knitCountsSpec)

/-- ITS FALSE NEIGHBOUR: 'it returns false'. Refute it at one input. -/
def knitCountsWrong : ChangeSpec := { name := "knitCounts", fn := fun _ => fun
  | [d1, d2] => { results := [.lit (.bool false)], args := [d1, d2] }
  | _ => none }
def KnitCountsWrongFalsely : Prop := knitCountsRow.holds Try.pinned (OpenSpec.ofChange knitCountsWrong)

/-- 'marblerunlaw03.KnitThird': WHATEVER THE INPUT: true; the input reads as it did. -/
def knitThirdSpec : ChangeSpec := { name := "knitThird", fn := fun _ => fun
  | [d1, d2, d3, d4, d5] => { results := [.lit (.bool true)], args := [d1, d2, d3, d4, d5] }
  | _ => none }
def knitThirdRow : OpenClaim := { program := "ythpcaamfcmjnmaa", sum := "d9b807de5fc78b12651bca52d67b034f9cd3a07a0f21d8d068c0862799fc1c38", func := "marblerun/marblerunlaw03.KnitThird", spec := "knitThird", apart := false }
def KnitThirdSaid : Prop := knitThirdRow.holds Try.pinned (OpenSpec.ofChange knitThirdSpec)

/-- ITS FALSE NEIGHBOUR: 'it returns false'. Refute it at one input. -/
def knitThirdWrong : ChangeSpec := { name := "knitThird", fn := fun _ => fun
  | [d1, d2, d3, d4, d5] => { results := [.lit (.bool false)], args := [d1, d2, d3, d4, d5] }
  | _ => none }
def KnitThirdWrongFalsely : Prop := knitThirdRow.holds Try.pinned (OpenSpec.ofChange knitThirdWrong)

/- THE SECOND FORM. 'bulk': how many values and letters a reading holds, each counted each time it is reached (what is shared counts as often as it is met; a slice's spare places count too). A statement '..UptoSaid' is the law's where the arguments, and the package variables that the reading takes, are together of bulk at most 1048576: NARROWER than '..Said'. Prove '..Said' where nothing that the law and all that it calls make is longer than what came in: it says more and counts as full. Else prove '..UptoSaid'. A law counts once. -/
mutual
def uptoBulk {H : Type} : DataW H → Nat
  | .lit (.string bytes) => bytes.length + 1
  | .lit _ => 1
  | .nil => 1
  | .ptr d => uptoBulk d + 1
  | .slice elems spare => uptoBulkAll elems + uptoBulkAll spare + 1
  | .agg parts => uptoBulkAll parts + 1
  | .iface _ d => uptoBulk d + 1
  | .map entries => uptoBulkEntries entries + 1
  | .held _ => 1
def uptoBulkAll {H : Type} : List (DataW H) → Nat
  | [] => 0
  | d :: r => uptoBulk d + uptoBulkAll r
def uptoBulkEntries {H : Type} : List (Lit × DataW H) → Nat
  | [] => 0
  | x :: r => uptoBulkEntry x + uptoBulkEntries r
def uptoBulkEntry {H : Type} : Lit × DataW H → Nat
  | (.string bytes, d) => bytes.length + uptoBulk d + 1
  | (_, d) => uptoBulk d + 1
 end
def uptoSmall : (H : Type) → List (DataW H) → Bool := fun _ ds => decide (uptoBulkAll ds ≤ 1048576)
def OpenSpec.upto (s : _root_.Go.ChangeSpec) : _root_.Go.OpenSpec := { _root_.Go.OpenSpec.ofChange s with cond := some uptoSmall }

/-- 'marblerunlaw02.TrayHeaps', WHERE WHAT IT READS IS OF BULK AT MOST 1048576: true; the input reads as it did. -/
def trayHeapsUptoRow : OpenClaim := { program := "ythpcaamfcmjnmaa", sum := "d9b807de5fc78b12651bca52d67b034f9cd3a07a0f21d8d068c0862799fc1c38", func := "marblerun/marblerunlaw02.TrayHeaps", spec := "trayHeaps", apart := false, narrowed := true }
def TrayHeapsUptoSaid : Prop := trayHeapsUptoRow.holds Try.pinned (OpenSpec.upto trayHeapsSpec)

/-- 'marblerunlaw03.KnitJoins', WHERE WHAT IT READS IS OF BULK AT MOST 1048576: true; the input reads as it did. -/
def knitJoinsUptoRow : OpenClaim := { program := "ythpcaamfcmjnmaa", sum := "d9b807de5fc78b12651bca52d67b034f9cd3a07a0f21d8d068c0862799fc1c38", func := "marblerun/marblerunlaw03.KnitJoins", spec := "knitJoins", apart := false, narrowed := true }
def KnitJoinsUptoSaid : Prop := knitJoinsUptoRow.holds Try.pinned (OpenSpec.upto knitJoinsSpec)

/-- 'marblerunlaw03.KnitEnds', WHERE WHAT IT READS IS OF BULK AT MOST 1048576: true; the input reads as it did. -/
def knitEndsUptoRow : OpenClaim := { program := "ythpcaamfcmjnmaa", sum := "d9b807de5fc78b12651bca52d67b034f9cd3a07a0f21d8d068c0862799fc1c38", func := "marblerun/marblerunlaw03.KnitEnds", spec := "knitEnds", apart := false, narrowed := true }
def KnitEndsUptoSaid : Prop := knitEndsUptoRow.holds Try.pinned (OpenSpec.upto knitEndsSpec)

/-- 'marblerunlaw03.KnitRow', WHERE WHAT IT READS IS OF BULK AT MOST 1048576: true; the input reads as it did. -/
def knitRowUptoRow : OpenClaim := { program := "ythpcaamfcmjnmaa", sum := "d9b807de5fc78b12651bca52d67b034f9cd3a07a0f21d8d068c0862799fc1c38", func := "marblerun/marblerunlaw03.KnitRow", spec := "knitRow", apart := false, narrowed := true }
def KnitRowUptoSaid : Prop := knitRowUptoRow.holds Try.pinned (OpenSpec.upto knitRowSpec)

/-- 'marblerunlaw03.KnitCounts', WHERE WHAT IT READS IS OF BULK AT MOST 1048576: true; the input reads as it did. -/
def knitCountsUptoRow : OpenClaim := { program := "ythpcaamfcmjnmaa", sum := "d9b807de5fc78b12651bca52d67b034f9cd3a07a0f21d8d068c0862799fc1c38", func := "marblerun/marblerunlaw03.KnitCounts", spec := "knitCounts", apart := false, narrowed := true }
def KnitCountsUptoSaid : Prop := knitCountsUptoRow.holds Try.pinned (OpenSpec.upto knitCountsSpec)

/-- 'marblerunlaw03.KnitThird', WHERE WHAT IT READS IS OF BULK AT MOST 1048576: true; the input reads as it did. -/
def knitThirdUptoRow : OpenClaim := { program := "ythpcaamfcmjnmaa", sum := "d9b807de5fc78b12651bca52d67b034f9cd3a07a0f21d8d068c0862799fc1c38", func := "marblerun/marblerunlaw03.KnitThird", spec := "knitThird", apart := false, narrowed := true }
def KnitThirdUptoSaid : Prop := knitThirdUptoRow.holds Try.pinned (OpenSpec.upto knitThirdSpec)

end Rows
end Go.Proofs.Ythpcaamfcmjnmaa
