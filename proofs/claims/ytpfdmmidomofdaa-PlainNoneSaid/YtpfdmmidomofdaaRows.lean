/-
  No cell of these rows narrows 'for every input' (looked for: loops, veiled, ifaces, maps, wideKeys, modest, calm, conditions, laid).
  DERIVED. THE GIVEN ROWS OF THIS SEAT. 9 by the template 'for every input the law returns true; each argument reads behind the call as it read before'; 0 by the template 'total and deterministic' (their statements: YtpfdmmidomofdaaTotals.lean).
  GIVEN WITH THE SEED: the statements are not yours to turn. If you find one false, say at which input.
  Laid BY PROGRAM, IN A SANDBOX (cutbox-rows.mjs): the forced cells as the released guide's own fill.sh prints them over the translation f0a4428a84f6ff49… (all of the seat's roots in one cut). By AI agents, Wed Nov 11 2026. No macro, syntax, notation, axiom, sorry.
-/
import Derived.Test.YtpfdmmidomofdaaChecked
import GoSem.Claim
import GoSem.ClaimJoined
import GoSem.ClaimMapViews
import Derived.JoinedTies
import Derived.KernelRfl
namespace Go.Proofs.Ytpfdmmidomofdaa
/- THE CELL 'sum', in the pinned program and in every row, IS THE sha256 OF THE DUMP (.gsa) THAT YtpfdmmidomofdaaProg.lean LOADS. Nothing in Lean hashes anything: it is a label: what it is worth is what the hold of that sum in a sandbox is worth. -/
noncomputable def Try.pinned : Pinned := { name := "ytpfdmmidomofdaa", sum := "f0a4428a84f6ff4919a44608b59c3e07da22e42765697ba4d51a02a3e74fb00b", checked := Try.checked }
namespace Rows
def none {H : Type} : Left H := { results := [], args := [] }

/-- 'marblerunlaw09.PlainRuns': WHATEVER THE INPUT: true; the input reads as it did. -/
def plainRunsSpec : ChangeSpec := { name := "plainRuns", fn := fun _ => fun
  | [d1, d2] => { results := [.lit (.bool true)], args := [d1, d2] }
  | _ => none }
def plainRunsRow : OpenClaim := { program := "ytpfdmmidomofdaa", sum := "f0a4428a84f6ff4919a44608b59c3e07da22e42765697ba4d51a02a3e74fb00b", func := "marblerun/marblerunlaw09.PlainRuns", spec := "plainRuns", unfollowed := true, recurses := true, apart := false }
def PlainRunsSaid : Prop := plainRunsRow.holds Try.pinned (OpenSpec.ofChange plainRunsSpec)

/-- ITS FALSE NEIGHBOUR: 'it returns false'. Refute it at one input. -/
def plainRunsWrong : ChangeSpec := { name := "plainRuns", fn := fun _ => fun
  | [d1, d2] => { results := [.lit (.bool false)], args := [d1, d2] }
  | _ => none }
def PlainRunsWrongFalsely : Prop := plainRunsRow.holds Try.pinned (OpenSpec.ofChange plainRunsWrong)

/-- 'marblerunlaw09.PlainRaw': WHATEVER THE INPUT: true; the input reads as it did. -/
def plainRawSpec : ChangeSpec := { name := "plainRaw", fn := fun _ => fun
  | [d1, d2] => { results := [.lit (.bool true)], args := [d1, d2] }
  | _ => none }
def plainRawRow : OpenClaim := { program := "ytpfdmmidomofdaa", sum := "f0a4428a84f6ff4919a44608b59c3e07da22e42765697ba4d51a02a3e74fb00b", func := "marblerun/marblerunlaw09.PlainRaw", spec := "plainRaw", unfollowed := true, recurses := true, apart := false }
def PlainRawSaid : Prop := plainRawRow.holds Try.pinned (OpenSpec.ofChange plainRawSpec)

/-- ITS FALSE NEIGHBOUR: 'it returns false'. Refute it at one input. -/
def plainRawWrong : ChangeSpec := { name := "plainRaw", fn := fun _ => fun
  | [d1, d2] => { results := [.lit (.bool false)], args := [d1, d2] }
  | _ => none }
def PlainRawWrongFalsely : Prop := plainRawRow.holds Try.pinned (OpenSpec.ofChange plainRawWrong)

/-- 'marblerunlaw09.PlainNone': WHATEVER THE INPUT: true; the input reads as it did. -/
def plainNoneSpec : ChangeSpec := { name := "plainNone", fn := fun _ => fun
  | [d1, d2, d3] => { results := [.lit (.bool true)], args := [d1, d2, d3] }
  | _ => none }
def plainNoneRow : OpenClaim := { program := "ytpfdmmidomofdaa", sum := "f0a4428a84f6ff4919a44608b59c3e07da22e42765697ba4d51a02a3e74fb00b", func := "marblerun/marblerunlaw09.PlainNone", spec := "plainNone", unfollowed := true, recurses := true, apart := false }
def PlainNoneSaid : Prop := plainNoneRow.holds Try.pinned (OpenSpec.ofChange plainNoneSpec)

/-- ITS FALSE NEIGHBOUR: 'it returns false'. Refute it at one input. -/
def plainNoneWrong : ChangeSpec := { name := "plainNone", fn := fun _ => fun
  | [d1, d2, d3] => { results := [.lit (.bool false)], args := [d1, d2, d3] }
  | _ => none }
def PlainNoneWrongFalsely : Prop := plainNoneRow.holds Try.pinned (OpenSpec.ofChange plainNoneWrong)

/-- 'marblerunlaw10.SwiftRuns': WHATEVER THE INPUT: true; the input reads as it did. -/
def swiftRunsSpec : ChangeSpec := { name := "swiftRuns", fn := fun _ => fun
  | [d1, d2] => { results := [.lit (.bool true)], args := [d1, d2] }
  | _ => none }
def swiftRunsRow : OpenClaim := { program := "ytpfdmmidomofdaa", sum := "f0a4428a84f6ff4919a44608b59c3e07da22e42765697ba4d51a02a3e74fb00b", func := "marblerun/marblerunlaw10.SwiftRuns", spec := "swiftRuns", unfollowed := true, recurses := true, apart := false }
def SwiftRunsSaid : Prop := swiftRunsRow.holds Try.pinned (OpenSpec.ofChange swiftRunsSpec)

/-- ITS FALSE NEIGHBOUR: 'it returns false'. Refute it at one input. -/
def swiftRunsWrong : ChangeSpec := { name := "swiftRuns", fn := fun _ => fun
  | [d1, d2] => { results := [.lit (.bool false)], args := [d1, d2] }
  | _ => none }
def SwiftRunsWrongFalsely : Prop := swiftRunsRow.holds Try.pinned (OpenSpec.ofChange swiftRunsWrong)

/-- 'marblerunlaw10.SwiftSteps': WHATEVER THE INPUT: true; the input reads as it did. -/
def swiftStepsSpec : ChangeSpec := { name := "swiftSteps", fn := fun _ => fun
  | [d1, d2] => { results := [.lit (.bool true)], args := [d1, d2] }
  | _ => none }
def swiftStepsRow : OpenClaim := { program := "ytpfdmmidomofdaa", sum := "f0a4428a84f6ff4919a44608b59c3e07da22e42765697ba4d51a02a3e74fb00b", func := "marblerun/marblerunlaw10.SwiftSteps", spec := "swiftSteps", unfollowed := true, recurses := true, apart := false }
def SwiftStepsSaid : Prop := swiftStepsRow.holds Try.pinned (OpenSpec.ofChange swiftStepsSpec)

/-- ITS FALSE NEIGHBOUR: 'it returns false'. Refute it at one input. -/
def swiftStepsWrong : ChangeSpec := { name := "swiftSteps", fn := fun _ => fun
  | [d1, d2] => { results := [.lit (.bool false)], args := [d1, d2] }
  | _ => none }
def SwiftStepsWrongFalsely : Prop := swiftStepsRow.holds Try.pinned (OpenSpec.ofChange swiftStepsWrong)

/-- 'marblerunlaw10.SwiftComes': WHATEVER THE INPUT: true; the input reads as it did. -/
def swiftComesSpec : ChangeSpec := { name := "swiftComes", fn := fun _ => fun
  | [d1, d2] => { results := [.lit (.bool true)], args := [d1, d2] }
  | _ => none }
def swiftComesRow : OpenClaim := { program := "ytpfdmmidomofdaa", sum := "f0a4428a84f6ff4919a44608b59c3e07da22e42765697ba4d51a02a3e74fb00b", func := "marblerun/marblerunlaw10.SwiftComes", spec := "swiftComes", unfollowed := true, recurses := true, apart := false }
def SwiftComesSaid : Prop := swiftComesRow.holds Try.pinned (OpenSpec.ofChange swiftComesSpec)

/-- ITS FALSE NEIGHBOUR: 'it returns false'. Refute it at one input. -/
def swiftComesWrong : ChangeSpec := { name := "swiftComes", fn := fun _ => fun
  | [d1, d2] => { results := [.lit (.bool false)], args := [d1, d2] }
  | _ => none }
def SwiftComesWrongFalsely : Prop := swiftComesRow.holds Try.pinned (OpenSpec.ofChange swiftComesWrong)

/-- 'marblerunlaw10.SwiftParts': WHATEVER THE INPUT: true; the input reads as it did. -/
def swiftPartsSpec : ChangeSpec := { name := "swiftParts", fn := fun _ => fun
  | [d1, d2] => { results := [.lit (.bool true)], args := [d1, d2] }
  | _ => none }
def swiftPartsRow : OpenClaim := { program := "ytpfdmmidomofdaa", sum := "f0a4428a84f6ff4919a44608b59c3e07da22e42765697ba4d51a02a3e74fb00b", func := "marblerun/marblerunlaw10.SwiftParts", spec := "swiftParts", unfollowed := true, recurses := true, apart := false }
def SwiftPartsSaid : Prop := swiftPartsRow.holds Try.pinned (OpenSpec.ofChange swiftPartsSpec)

/-- ITS FALSE NEIGHBOUR: 'it returns false'. Refute it at one input. -/
def swiftPartsWrong : ChangeSpec := { name := "swiftParts", fn := fun _ => fun
  | [d1, d2] => { results := [.lit (.bool false)], args := [d1, d2] }
  | _ => none }
def SwiftPartsWrongFalsely : Prop := swiftPartsRow.holds Try.pinned (OpenSpec.ofChange swiftPartsWrong)

/-- 'marblerunlaw10.SwiftRing': WHATEVER THE INPUT: true; the input reads as it did. -/
def swiftRingSpec : ChangeSpec := { name := "swiftRing", fn := fun _ => fun
  | [d1, d2] => { results := [.lit (.bool true)], args := [d1, d2] }
  | _ => none }
def swiftRingRow : OpenClaim := { program := "ytpfdmmidomofdaa", sum := "f0a4428a84f6ff4919a44608b59c3e07da22e42765697ba4d51a02a3e74fb00b", func := "marblerun/marblerunlaw10.SwiftRing", spec := "swiftRing", unfollowed := true, recurses := true, apart := false }
def SwiftRingSaid : Prop := swiftRingRow.holds Try.pinned (OpenSpec.ofChange swiftRingSpec)

/-- ITS FALSE NEIGHBOUR: 'it returns false'. Refute it at one input. -/
def swiftRingWrong : ChangeSpec := { name := "swiftRing", fn := fun _ => fun
  | [d1, d2] => { results := [.lit (.bool false)], args := [d1, d2] }
  | _ => none }
def SwiftRingWrongFalsely : Prop := swiftRingRow.holds Try.pinned (OpenSpec.ofChange swiftRingWrong)

/-- 'marblerunlaw10.SwiftTwice': WHATEVER THE INPUT: true; the input reads as it did. -/
def swiftTwiceSpec : ChangeSpec := { name := "swiftTwice", fn := fun _ => fun
  | [d1, d2] => { results := [.lit (.bool true)], args := [d1, d2] }
  | _ => none }
def swiftTwiceRow : OpenClaim := { program := "ytpfdmmidomofdaa", sum := "f0a4428a84f6ff4919a44608b59c3e07da22e42765697ba4d51a02a3e74fb00b", func := "marblerun/marblerunlaw10.SwiftTwice", spec := "swiftTwice", unfollowed := true, recurses := true, apart := false }
def SwiftTwiceSaid : Prop := swiftTwiceRow.holds Try.pinned (OpenSpec.ofChange swiftTwiceSpec)

/-- ITS FALSE NEIGHBOUR: 'it returns false'. Refute it at one input. -/
def swiftTwiceWrong : ChangeSpec := { name := "swiftTwice", fn := fun _ => fun
  | [d1, d2] => { results := [.lit (.bool false)], args := [d1, d2] }
  | _ => none }
def SwiftTwiceWrongFalsely : Prop := swiftTwiceRow.holds Try.pinned (OpenSpec.ofChange swiftTwiceWrong)

/- THE SECOND FORM. 'bulk': how many values and letters a reading holds, each counted each time it is reached (what is shared counts as often as it is met; a slice's spare places count too). A statement '..UptoSaid' is the law's where the arguments, and the package variables that the reading takes, are together of bulk at most 1048576: NARROWER than '..Said'. Prove '..Said' where nothing that the law and all that it calls make is longer than what came in: it says more and counts as full. Else prove '..UptoSaid'. A law counts once. -/
mutual
def uptoBulk {H : Type} : DataW H → Nat
  | .lit (.string bytes) => bytes.length + 1
  | .lit _ => 1
  | .nil => 1
  | .ptr d => uptoBulk d + 1
  | .slice elems spare => uptoBulkAll elems + uptoBulkAll spare + 1
  | .agg parts => uptoBulkAll parts + 1
  | .iface _ d => uptoBulk d + 1
  | .map entries => uptoBulkEntries entries + 1
  | .held _ => 1
def uptoBulkAll {H : Type} : List (DataW H) → Nat
  | [] => 0
  | d :: r => uptoBulk d + uptoBulkAll r
def uptoBulkEntries {H : Type} : List (Lit × DataW H) → Nat
  | [] => 0
  | x :: r => uptoBulkEntry x + uptoBulkEntries r
def uptoBulkEntry {H : Type} : Lit × DataW H → Nat
  | (.string bytes, d) => bytes.length + uptoBulk d + 1
  | (_, d) => uptoBulk d + 1
 end
def uptoSmall : (H : Type) → List (DataW H) → Bool := fun _ ds => decide (uptoBulkAll ds ≤ 1048576)
def OpenSpec.upto (s : _root_.Go.ChangeSpec) : _root_.Go.OpenSpec := { _root_.Go.OpenSpec.ofChange s with cond := some uptoSmall }

/-- 'marblerunlaw09.PlainRuns', WHERE WHAT IT READS IS OF BULK AT MOST 1048576: true; the input reads as it did. -/
def plainRunsUptoRow : OpenClaim := { program := "ytpfdmmidomofdaa", sum := "f0a4428a84f6ff4919a44608b59c3e07da22e42765697ba4d51a02a3e74fb00b", func := "marblerun/marblerunlaw09.PlainRuns", spec := "plainRuns", unfollowed := true, recurses := true, apart := false, narrowed := true }
def PlainRunsUptoSaid : Prop := plainRunsUptoRow.holds Try.pinned (OpenSpec.upto plainRunsSpec)

/-- 'marblerunlaw09.PlainRaw', WHERE WHAT IT READS IS OF BULK AT MOST 1048576: true; the input reads as it did. -/
def plainRawUptoRow : OpenClaim := { program := "ytpfdmmidomofdaa", sum := "f0a4428a84f6ff4919a44608b59c3e07da22e42765697ba4d51a02a3e74fb00b", func := "marblerun/marblerunlaw09.PlainRaw", spec := "plainRaw", unfollowed := true, recurses := true, apart := false, narrowed := true }
def PlainRawUptoSaid : Prop := plainRawUptoRow.holds Try.pinned (OpenSpec.upto plainRawSpec)

/-- 'marblerunlaw09.PlainNone', WHERE WHAT IT READS IS OF BULK AT MOST 1048576: true; the input reads as it did. -/
def plainNoneUptoRow : OpenClaim := { program := "ytpfdmmidomofdaa", sum := "f0a4428a84f6ff4919a44608b59c3e07da22e42765697ba4d51a02a3e74fb00b", func := "marblerun/marblerunlaw09.PlainNone", spec := "plainNone", unfollowed := true, recurses := true, apart := false, narrowed := true }
def PlainNoneUptoSaid : Prop := plainNoneUptoRow.holds Try.pinned (OpenSpec.upto plainNoneSpec)

/-- 'marblerunlaw10.SwiftRuns', WHERE WHAT IT READS IS OF BULK AT MOST 1048576: true; the input reads as it did. -/
def swiftRunsUptoRow : OpenClaim := { program := "ytpfdmmidomofdaa", sum := "f0a4428a84f6ff4919a44608b59c3e07da22e42765697ba4d51a02a3e74fb00b", func := "marblerun/marblerunlaw10.SwiftRuns", spec := "swiftRuns", unfollowed := true, recurses := true, apart := false, narrowed := true }
def SwiftRunsUptoSaid : Prop := swiftRunsUptoRow.holds Try.pinned (OpenSpec.upto swiftRunsSpec)

/-- 'marblerunlaw10.SwiftSteps', WHERE WHAT IT READS IS OF BULK AT MOST 1048576: true; the input reads as it did. -/
def swiftStepsUptoRow : OpenClaim := { program := "ytpfdmmidomofdaa", sum := "f0a4428a84f6ff4919a44608b59c3e07da22e42765697ba4d51a02a3e74fb00b", func := "marblerun/marblerunlaw10.SwiftSteps", spec := "swiftSteps", unfollowed := true, recurses := true, apart := false, narrowed := true }
def SwiftStepsUptoSaid : Prop := swiftStepsUptoRow.holds Try.pinned (OpenSpec.upto swiftStepsSpec)

/-- 'marblerunlaw10.SwiftComes', WHERE WHAT IT READS IS OF BULK AT MOST 1048576: true; the input reads as it did. -/
def swiftComesUptoRow : OpenClaim := { program := "ytpfdmmidomofdaa", sum := "f0a4428a84f6ff4919a44608b59c3e07da22e42765697ba4d51a02a3e74fb00b", func := "marblerun/marblerunlaw10.SwiftComes", spec := "swiftComes", unfollowed := true, recurses := true, apart := false, narrowed := true }
def SwiftComesUptoSaid : Prop := swiftComesUptoRow.holds Try.pinned (OpenSpec.upto swiftComesSpec)

/-- 'marblerunlaw10.SwiftParts', WHERE WHAT IT READS IS OF BULK AT MOST 1048576: true; the input reads as it did. -/
def swiftPartsUptoRow : OpenClaim := { program := "ytpfdmmidomofdaa", sum := "f0a4428a84f6ff4919a44608b59c3e07da22e42765697ba4d51a02a3e74fb00b", func := "marblerun/marblerunlaw10.SwiftParts", spec := "swiftParts", unfollowed := true, recurses := true, apart := false, narrowed := true }
def SwiftPartsUptoSaid : Prop := swiftPartsUptoRow.holds Try.pinned (OpenSpec.upto swiftPartsSpec)

/-- 'marblerunlaw10.SwiftRing', WHERE WHAT IT READS IS OF BULK AT MOST 1048576: true; the input reads as it did. -/
def swiftRingUptoRow : OpenClaim := { program := "ytpfdmmidomofdaa", sum := "f0a4428a84f6ff4919a44608b59c3e07da22e42765697ba4d51a02a3e74fb00b", func := "marblerun/marblerunlaw10.SwiftRing", spec := "swiftRing", unfollowed := true, recurses := true, apart := false, narrowed := true }
def SwiftRingUptoSaid : Prop := swiftRingUptoRow.holds Try.pinned (OpenSpec.upto swiftRingSpec)

/-- 'marblerunlaw10.SwiftTwice', WHERE WHAT IT READS IS OF BULK AT MOST 1048576: true; the input reads as it did. -/
def swiftTwiceUptoRow : OpenClaim := { program := "ytpfdmmidomofdaa", sum := "f0a4428a84f6ff4919a44608b59c3e07da22e42765697ba4d51a02a3e74fb00b", func := "marblerun/marblerunlaw10.SwiftTwice", spec := "swiftTwice", unfollowed := true, recurses := true, apart := false, narrowed := true }
def SwiftTwiceUptoSaid : Prop := swiftTwiceUptoRow.holds Try.pinned (OpenSpec.upto swiftTwiceSpec)

end Rows
end Go.Proofs.Ytpfdmmidomofdaa
