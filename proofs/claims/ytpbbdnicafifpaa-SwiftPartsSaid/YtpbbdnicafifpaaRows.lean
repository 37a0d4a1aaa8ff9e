/-
  No cell of these rows narrows 'for every input' (looked for: loops, veiled, ifaces, maps, wideKeys, modest, calm, conditions, laid).
  DERIVED. THE GIVEN ROWS OF THIS SEAT. 11 by the template 'for every input the law returns true; each argument reads behind the call as it read before'; 0 by the template 'total and deterministic' (their statements: YtpbbdnicafifpaaTotals.lean).
  GIVEN WITH THE SEED: the statements are not yours to turn. If you find one false, say at which input.
  Laid BY PROGRAM, IN A SANDBOX (cutbox-rows.mjs): the forced cells as the released guide's own fill.sh prints them over the translation 9f37422c34c48552… (all of the seat's roots in one cut). By AI agents, Wed Nov 11 2026. No macro, syntax, notation, axiom, sorry.
-/
import Derived.Test.YtpbbdnicafifpaaChecked
import GoSem.Claim
import GoSem.ClaimJoined
import GoSem.ClaimMapViews
import Derived.JoinedTies
import Derived.KernelRfl
namespace Go.Proofs.Ytpbbdnicafifpaa
/- THE CELL 'sum', in the pinned program and in every row, IS THE sha256 OF THE DUMP (.gsa) THAT YtpbbdnicafifpaaProg.lean LOADS. Nothing in Lean hashes anything: it is a label: what it is worth is what the hold of that sum in a sandbox is worth. -/
noncomputable def Try.pinned : Pinned := { name := "ytpbbdnicafifpaa", sum := "9f37422c34c485520339f36407e6596bc2d6e1a665417d6adf1e372253b9f2e6", checked := Try.checked }
namespace Rows
def none {H : Type} : Left H := { results := [], args := [] }

/-- 'marblerunlaw11.MatrixOf': WHATEVER THE INPUT: true; the input reads as it did. -/
def matrixOfSpec : ChangeSpec := { name := "matrixOf", fn := fun _ => fun
  | [d] => { results := [.lit (.bool true)], args := [d] }
  | _ => none }
def matrixOfRow : OpenClaim := { program := "ytpbbdnicafifpaa", sum := "9f37422c34c485520339f36407e6596bc2d6e1a665417d6adf1e372253b9f2e6", func := "marblerun/marblerunlaw11.MatrixOf", spec := "matrixOf", apart := false }
def MatrixOfSaid : Prop := matrixOfRow.holds Try.pinned (OpenSpec.ofChange matrixOfSpec)

/-- ITS FALSE NEIGHBOUR: 'it returns false'. Refute it at one input. -/
def matrixOfWrong : ChangeSpec := { name := "matrixOf", fn := fun _ => fun
  | [d] => { results := [.lit (.bool false)], args := [d] }
  | _ => none }
def MatrixOfWrongFalsely : Prop := matrixOfRow.holds Try.pinned (OpenSpec.ofChange matrixOfWrong)

/-- 'marblerunlaw11.MatrixTimes': WHATEVER THE INPUT: true; the input reads as it did. -/
def matrixTimesSpec : ChangeSpec := { name := "matrixTimes", fn := fun _ => fun
  | [d1, d2, d3, d4] => { results := [.lit (.bool true)], args := [d1, d2, d3, d4] }
  | _ => none }
def matrixTimesRow : OpenClaim := { program := "ytpbbdnicafifpaa", sum := "9f37422c34c485520339f36407e6596bc2d6e1a665417d6adf1e372253b9f2e6", func := "marblerun/marblerunlaw11.MatrixTimes", spec := "matrixTimes", apart := false }
def MatrixTimesSaid : Prop := matrixTimesRow.holds Try.pinned (OpenSpec.ofChange matrixTimesSpec)

/-- ITS FALSE NEIGHBOUR: 'it returns false'. Refute it at one input. -/
def matrixTimesWrong : ChangeSpec := { name := "matrixTimes", fn := fun _ => fun
  | [d1, d2, d3, d4] => { results := [.lit (.bool false)], args := [d1, d2, d3, d4] }
  | _ => none }
def MatrixTimesWrongFalsely : Prop := matrixTimesRow.holds Try.pinned (OpenSpec.ofChange matrixTimesWrong)

/-- 'marblerunlaw11.MatrixZeros': WHATEVER THE INPUT: true; the input reads as it did. -/
def matrixZerosSpec : ChangeSpec := { name := "matrixZeros", fn := fun _ => fun
  | [d1, d2] => { results := [.lit (.bool true)], args := [d1, d2] }
  | _ => none }
def matrixZerosRow : OpenClaim := { program := "ytpbbdnicafifpaa", sum := "9f37422c34c485520339f36407e6596bc2d6e1a665417d6adf1e372253b9f2e6", func := "marblerun/marblerunlaw11.MatrixZeros", spec := "matrixZeros", apart := false }
def MatrixZerosSaid : Prop := matrixZerosRow.holds Try.pinned (OpenSpec.ofChange matrixZerosSpec)

/-- ITS FALSE NEIGHBOUR: 'it returns false'. Refute it at one input. -/
def matrixZerosWrong : ChangeSpec := { name := "matrixZeros", fn := fun _ => fun
  | [d1, d2] => { results := [.lit (.bool false)], args := [d1, d2] }
  | _ => none }
def MatrixZerosWrongFalsely : Prop := matrixZerosRow.holds Try.pinned (OpenSpec.ofChange matrixZerosWrong)

/-- 'marblerunlaw11.MatrixRuns': WHATEVER THE INPUT: true; the input reads as it did. -/
def matrixRunsSpec : ChangeSpec := { name := "matrixRuns", fn := fun _ => fun
  | [d1, d2] => { results := [.lit (.bool true)], args := [d1, d2] }
  | _ => none }
def matrixRunsRow : OpenClaim := { program := "ytpbbdnicafifpaa", sum := "9f37422c34c485520339f36407e6596bc2d6e1a665417d6adf1e372253b9f2e6", func := "marblerun/marblerunlaw11.MatrixRuns", spec := "matrixRuns", apart := false }
def MatrixRunsSaid : Prop := matrixRunsRow.holds Try.pinned (OpenSpec.ofChange matrixRunsSpec)

/-- ITS FALSE NEIGHBOUR: 'it returns false'. Refute it at one input. -/
def matrixRunsWrong : ChangeSpec := { name := "matrixRuns", fn := fun _ => fun
  | [d1, d2] => { results := [.lit (.bool false)], args := [d1, d2] }
  | _ => none }
def MatrixRunsWrongFalsely : Prop := matrixRunsRow.holds Try.pinned (OpenSpec.ofChange matrixRunsWrong)

/-- 'marblerunlaw11.MatrixSides': WHATEVER THE INPUT: true; the input reads as it did. -/
def matrixSidesSpec : ChangeSpec := { name := "matrixSides", fn := fun _ => fun
  | [d1, d2, d3, d4] => { results := [.lit (.bool true)], args := [d1, d2, d3, d4] }
  | _ => none }
def matrixSidesRow : OpenClaim := { program := "ytpbbdnicafifpaa", sum := "9f37422c34c485520339f36407e6596bc2d6e1a665417d6adf1e372253b9f2e6", func := "marblerun/marblerunlaw11.MatrixSides", spec := "matrixSides", apart := false }
def MatrixSidesSaid : Prop := matrixSidesRow.holds Try.pinned (OpenSpec.ofChange matrixSidesSpec)

/-- ITS FALSE NEIGHBOUR: 'it returns false'. Refute it at one input. -/
def matrixSidesWrong : ChangeSpec := { name := "matrixSides", fn := fun _ => fun
  | [d1, d2, d3, d4] => { results := [.lit (.bool false)], args := [d1, d2, d3, d4] }
  | _ => none }
def MatrixSidesWrongFalsely : Prop := matrixSidesRow.holds Try.pinned (OpenSpec.ofChange matrixSidesWrong)

/-- 'marblerunlaw10.SwiftRuns': WHATEVER THE INPUT: true; the input reads as it did. -/
def swiftRunsSpec : ChangeSpec := { name := "swiftRuns", fn := fun _ => fun
  | [d1, d2] => { results := [.lit (.bool true)], args := [d1, d2] }
  | _ => none }
def swiftRunsRow : OpenClaim := { program := "ytpbbdnicafifpaa", sum := "9f37422c34c485520339f36407e6596bc2d6e1a665417d6adf1e372253b9f2e6", func := "marblerun/marblerunlaw10.SwiftRuns", spec := "swiftRuns", unfollowed := true, recurses := true, apart := false }
def SwiftRunsSaid : Prop := swiftRunsRow.holds Try.pinned (OpenSpec.ofChange swiftRunsSpec)

/-- ITS FALSE NEIGHBOUR: 'it returns false'. Refute it at one input. -/
def swiftRunsWrong : ChangeSpec := { name := "swiftRuns", fn := fun _ => fun
  | [d1, d2] => { results := [.lit (.bool false)], args := [d1, d2] }
  | _ => none }
def SwiftRunsWrongFalsely : Prop := swiftRunsRow.holds Try.pinned (OpenSpec.ofChange swiftRunsWrong)

/-- 'marblerunlaw10.SwiftSteps': WHATEVER THE INPUT: true; the input reads as it did. -/
def swiftStepsSpec : ChangeSpec := { name := "swiftSteps", fn := fun _ => fun
  | [d1, d2] => { results := [.lit (.bool true)], args := [d1, d2] }
  | _ => none }
def swiftStepsRow : OpenClaim := { program := "ytpbbdnicafifpaa", sum := "9f37422c34c485520339f36407e6596bc2d6e1a665417d6adf1e372253b9f2e6", func := "marblerun/marblerunlaw10.SwiftSteps", spec := "swiftSteps", unfollowed := true, recurses := true, apart := false }
def SwiftStepsSaid : Prop := swiftStepsRow.holds Try.pinned (OpenSpec.ofChange swiftStepsSpec)

/-- ITS FALSE NEIGHBOUR: 'it returns false'. Refute it at one input. -/
def swiftStepsWrong : ChangeSpec := { name := "swiftSteps", fn := fun _ => fun
  | [d1, d2] => { results := [.lit (.bool false)], args := [d1, d2] }
  | _ => none }
def SwiftStepsWrongFalsely : Prop := swiftStepsRow.holds Try.pinned (OpenSpec.ofChange swiftStepsWrong)

/-- 'marblerunlaw10.SwiftComes': WHATEVER THE INPUT: true; the input reads as it did. -/
def swiftComesSpec : ChangeSpec := { name := "swiftComes", fn := fun _ => fun
  | [d1, d2] => { results := [.lit (.bool true)], args := [d1, d2] }
  | _ => none }
def swiftComesRow : OpenClaim := { program := "ytpbbdnicafifpaa", sum := "9f37422c34c485520339f36407e6596bc2d6e1a665417d6adf1e372253b9f2e6", func := "marblerun/marblerunlaw10.SwiftComes", spec := "swiftComes", unfollowed := true, recurses := true, apart := false }
def SwiftComesSaid : Prop := swiftComesRow.holds Try.pinned (OpenSpec.ofChange swiftComesSpec)

/-- ITS FALSE NEIGHBOUR: 'it returns false'. Refute it at one input. -/
def swiftComesWrong : ChangeSpec := { name := "swiftComes", fn := fun _ => fun
  | [d1, d2] => { results := [.lit (.bool false)], args := [d1, d2] }
  | _ => none }
def SwiftComesWrongFalsely : Prop := swiftComesRow.holds Try.pinned (OpenSpec.ofChange swiftComesWrong)

/-- 'marblerunlaw10.SwiftParts': WHATEVER THE INPUT: true; the input reads as it did. -/
def swiftPartsSpec : ChangeSpec := { name := "swiftParts", fn := fun _ => fun
  | [d1, d2] => { results := [.lit (.bool true)], args := [d1, d2] }
  | _ => none }
def swiftPartsRow : OpenClaim := { program := "ytpbbdnicafifpaa", sum := "9f37422c34c485520339f36407e6596bc2d6e1a665417d6adf1e372253b9f2e6", func := "marblerun/marblerunlaw10.SwiftParts", spec := "swiftParts", unfollowed := true, recurses := true, apart := false }
def SwiftPartsSaid : Prop := swiftPartsRow.holds Try.pinned (OpenSpec.ofChange swiftPartsSpec)

/-- ITS FALSE NEIGHBOUR: 'it returns false'. Refute it at one input. -/
def swiftPartsWrong : ChangeSpec := { name := "swiftParts", fn := fun _ => fun
  | [d1, d2] => { results := [.lit (.bool false)], args := [d1, d2] }
  | _ => none }
def SwiftPartsWrongFalsely : Prop := swiftPartsRow.holds Try.pinned (OpenSpec.ofChange swiftPartsWrong)

/-- 'marblerunlaw10.SwiftRing': WHATEVER THE INPUT: true; the input reads as it did. -/
def swiftRingSpec : ChangeSpec := { name := "swiftRing", fn := fun _ => fun
  | [d1, d2] => { results := [.lit (.bool true)], args := [d1, d2] }
  | _ => none }
def swiftRingRow : OpenClaim := { program := "ytpbbdnicafifpaa", sum := "9f37422c34c485520339f36407e6596bc2d6e1a665417d6adf1e372253b9f2e6", func := "marblerun/marblerunlaw10.SwiftRing", spec := "swiftRing", unfollowed := true, recurses := true, apart := false }
def SwiftRingSaid : Prop := swiftRingRow.holds Try.pinned (OpenSpec.ofChange swiftRingSpec)

/-- ITS FALSE NEIGHBOUR: 'it returns false'. Refute it at one input. -/
def swiftRingWrong : ChangeSpec := { name := "swiftRing", fn := fun _ => fun
  | [d1, d2] => { results := [.lit (.bool false)], args := [d1, d2] }
  | _ => none }
def SwiftRingWrongFalsely : Prop := swiftRingRow.holds Try.pinned (OpenSpec.ofChange swiftRingWrong)

/-- 'marblerunlaw10.SwiftTwice': WHATEVER THE INPUT: true; the input reads as it did. -/
def swiftTwiceSpec : ChangeSpec := { name := "swiftTwice", fn := fun _ => fun
  | [d1, d2] => { results := [.lit (.bool true)], args := [d1, d2] }
  | _ => none }
def swiftTwiceRow : OpenClaim := { program := "ytpbbdnicafifpaa", sum := "9f37422c34c485520339f36407e6596bc2d6e1a665417d6adf1e372253b9f2e6", func := "marblerun/marblerunlaw10.SwiftTwice", spec := "swiftTwice", unfollowed := true, recurses := true, apart := false }
def SwiftTwiceSaid : Prop := swiftTwiceRow.holds Try.pinned (OpenSpec.ofChange swiftTwiceSpec)

/-- ITS FALSE NEIGHBOUR: 'it returns false'. Refute it at one input. -/
def swiftTwiceWrong : ChangeSpec := { name := "swiftTwice", fn := fun _ => fun
  | [d1, d2] => { results := [.lit (.bool false)], args := [d1, d2] }
  | _ => none }
def SwiftTwiceWrongFalsely : Prop := swiftTwiceRow.holds Try.pinned (OpenSpec.ofChange swiftTwiceWrong)

/- THE SECOND FORM. 'bulk': how many values and letters a reading holds, each counted each time it is reached (what is shared counts as often as it is met; a slice's spare places count too). A statement '..UptoSaid' is the law's where the arguments, and the package variables that the reading takes, are together of bulk at most 1048576: NARROWER than '..Said'. Prove '..Said' where nothing that the law and all that it calls make is longer than what came in: it says more and counts as full. Else prove '..UptoSaid'. A law counts once. -/
mutual
def uptoBulk {H : Type} : DataW H → Nat
  | .lit (.string bytes) => bytes.length + 1
  | .lit _ => 1
  | .nil => 1
  | .ptr d => uptoBulk d + 1
  | .slice elems spare => uptoBulkAll elems + uptoBulkAll spare + 1
  | .agg parts => uptoBulkAll parts + 1
  | .iface _ d => uptoBulk d + 1
  | .map entries => uptoBulkEntries entries + 1
  | .held _ => 1
def uptoBulkAll {H : Type} : List (DataW H) → Nat
  | [] => 0
  | d :: r => uptoBulk d + uptoBulkAll r
def uptoBulkEntries {H : Type} : List (Lit × DataW H) → Nat
  | [] => 0
  | x :: r => uptoBulkEntry x + uptoBulkEntries r
def uptoBulkEntry {H : Type} : Lit × DataW H → Nat
  | (.string bytes, d) => bytes.length + uptoBulk d + 1
  | (_, d) => uptoBulk d + 1
 end
def uptoSmall : (H : Type) → List (DataW H) → Bool := fun _ ds => decide (uptoBulkAll ds ≤ 1048576)
def OpenSpec.upto (s : _root_.Go.ChangeSpec) : _root_.Go.OpenSpec := { _root_.Go.OpenSpec.ofChange s with cond := some uptoSmall }

/-- 'marblerunlaw11.MatrixOf', WHERE WHAT IT READS IS OF BULK AT MOST 1048576: true; the input reads as it did. -/
def matrixOfUptoRow : OpenClaim := { program := "ytpbbdnicafifpaa", sum := "9f37422c34c485520339f36407e6596bc2d6e1a665417d6adf1e372253b9f2e6", func := "marblerun/marblerunlaw11.MatrixOf", spec := "matrixOf", apart := false, narrowed := true }
def MatrixOfUptoSaid : Prop := matrixOfUptoRow.holds Try.pinned (OpenSpec.upto matrixOfSpec)

/-- 'marblerunlaw11.MatrixTimes', WHERE WHAT IT READS IS OF BULK AT MOST 1048576: true; the input reads as it did. -/
def matrixTimesUptoRow : OpenClaim := { program := "ytpbbdnicafifpaa", sum := "9f37422c34c485520339f36407e6596bc2d6e1a665417d6adf1e372253b9f2e6", func := "marblerun/marblerunlaw11.MatrixTimes", spec := "matrixTimes", apart := false, narrowed := true }
def MatrixTimesUptoSaid : Prop := matrixTimesUptoRow.holds Try.pinned (OpenSpec.upto matrixTimesSpec)

/-- 'marblerunlaw11.MatrixZeros', WHERE WHAT IT READS IS OF BULK AT MOST 1048576: true; the input reads as it did. -/
def matrixZerosUptoRow : OpenClaim := { program := "ytpbbdnicafifpaa", sum := "9f37422c34c485520339f36407e6596bc2d6e1a665417d6adf1e372253b9f2e6", func := "marblerun/marblerunlaw11.MatrixZeros", spec := "matrixZeros", apart := false, narrowed := true }
def MatrixZerosUptoSaid : Prop := matrixZerosUptoRow.holds Try.pinned (OpenSpec.upto matrixZerosSpec)

/-- 'marblerunlaw11.MatrixRuns', WHERE WHAT IT READS IS OF BULK AT MOST 1048576: true; the input reads as it did. -/
def matrixRunsUptoRow : OpenClaim := { program := "ytpbbdnicafifpaa", sum := "9f37422c34c485520339f36407e6596bc2d6e1a665417d6adf1e372253b9f2e6", func := "marblerun/marblerunlaw11.MatrixRuns", spec := "matrixRuns", apart := false, narrowed := true }
def MatrixRunsUptoSaid : Prop := matrixRunsUptoRow.holds Try.pinned (OpenSpec.upto matrixRunsSpec)

/-- 'marblerunlaw11.MatrixSides', WHERE WHAT IT READS IS OF BULK AT MOST 1048576: true; the input reads as it did. -/
def matrixSidesUptoRow : OpenClaim := { program := "ytpbbdnicafifpaa", sum := "9f37422c34c485520339f36407e6596bc2d6e1a665417d6adf1e372253b9f2e6", func := "marblerun/marblerunlaw11.MatrixSides", spec := "matrixSides", apart := false, narrowed := true }
def MatrixSidesUptoSaid : Prop := matrixSidesUptoRow.holds Try.pinned (OpenSpec.upto matrixSidesSpec)

/-- 'marblerunlaw10.SwiftRuns', WHERE WHAT IT READS IS OF BULK AT MOST 1048576: true; the input reads as it did. -/
def swiftRunsUptoRow : OpenClaim := { program := "ytpbbdnicafifpaa", sum := "9f37422c34c485520339f36407e6596bc2d6e1a665417d6adf1e372253b9f2e6", func := "marblerun/marblerunlaw10.SwiftRuns", spec := "swiftRuns", unfollowed := true, recurses := true, apart := false, narrowed := true }
def SwiftRunsUptoSaid : Prop := swiftRunsUptoRow.holds Try.pinned (OpenSpec.upto swiftRunsSpec)

/-- 'marblerunlaw10.SwiftSteps', WHERE WHAT IT READS IS OF BULK AT MOST 1048576: true; the input reads as it did. -/
def swiftStepsUptoRow : OpenClaim := { program := "ytpbbdnicafifpaa", sum := "9f37422c34c485520339f36407e6596bc2d6e1a665417d6adf1e372253b9f2e6", func := "marblerun/marblerunlaw10.SwiftSteps", spec := "swiftSteps", unfollowed := true, recurses := true, apart := false, narrowed := true }
def SwiftStepsUptoSaid : Prop := swiftStepsUptoRow.holds Try.pinned (OpenSpec.upto swiftStepsSpec)

/-- 'marblerunlaw10.SwiftComes', WHERE WHAT IT READS IS OF BULK AT MOST 1048576: true; the input reads as it did. -/
def swiftComesUptoRow : OpenClaim := { program := "ytpbbdnicafifpaa", sum := "9f37422c34c485520339f36407e6596bc2d6e1a665417d6adf1e372253b9f2e6", func := "marblerun/marblerunlaw10.SwiftComes", spec := "swiftComes", unfollowed := true, recurses := true, apart := false, narrowed := true }
def SwiftComesUptoSaid : Prop := swiftComesUptoRow.holds Try.pinned (OpenSpec.upto swiftComesSpec)

/-- 'marblerunlaw10.SwiftParts', WHERE WHAT IT READS IS OF BULK AT MOST 1048576: true; the input reads as it did. -/
def swiftPartsUptoRow : OpenClaim := { program := "ytpbbdnicafifpaa", sum := "9f37422c34c485520339f36407e6596bc2d6e1a665417d6adf1e372253b9f2e6", func := "marblerun/marblerunlaw10.SwiftParts", spec := "swiftParts", unfollowed := true, recurses := true, apart := false, narrowed := true }
def SwiftPartsUptoSaid : Prop := swiftPartsUptoRow.holds Try.pinned (OpenSpec.upto swiftPartsSpec)

/-- 'marblerunlaw10.SwiftRing', WHERE WHAT IT READS IS OF BULK AT MOST 1048576: true; the input reads as it did. -/
def swiftRingUptoRow : OpenClaim := { program := "ytpbbdnicafifpaa", sum := "9f37422c34c485520339f36407e6596bc2d6e1a665417d6adf1e372253b9f2e6", func := "marblerun/marblerunlaw10.SwiftRing", spec := "swiftRing", unfollowed := true, recurses := true, apart := false, narrowed := true }
def SwiftRingUptoSaid : Prop := swiftRingUptoRow.holds Try.pinned (OpenSpec.upto swiftRingSpec)

/-- 'marblerunlaw10.SwiftTwice', WHERE WHAT IT READS IS OF BULK AT MOST 1048576: true; the input reads as it did. -/
def swiftTwiceUptoRow : OpenClaim := { program := "ytpbbdnicafifpaa", sum := "9f37422c34c485520339f36407e6596bc2d6e1a665417d6adf1e372253b9f2e6", func := "marblerun/marblerunlaw10.SwiftTwice", spec := "swiftTwice", unfollowed := true, recurses := true, apart := false, narrowed := true }
def SwiftTwiceUptoSaid : Prop := swiftTwiceUptoRow.holds Try.pinned (OpenSpec.upto swiftTwiceSpec)

end Rows
end Go.Proofs.Ytpbbdnicafifpaa
