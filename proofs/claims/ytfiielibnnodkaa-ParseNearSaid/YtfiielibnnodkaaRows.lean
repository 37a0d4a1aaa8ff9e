/-
  No cell of these rows narrows 'for every input' (looked for: loops, veiled, ifaces, maps, wideKeys, modest, calm, conditions, laid).
  DERIVED. THE GIVEN ROWS OF THIS SEAT. 6 by the template 'for every input the law returns true; each argument reads behind the call as it read before'; 0 by the template 'total and deterministic' (their statements: YtfiielibnnodkaaTotals.lean).
  GIVEN WITH THE SEED: the statements are not yours to turn. If you find one false, say at which input.
  Laid BY PROGRAM, IN A SANDBOX (cutbox-rows.mjs): the forced cells as the released guide's own fill.sh prints them over the translation a0f8976f5c7d9c28… (all of the seat's roots in one cut). By AI agents, Wed Nov 11 2026. No macro, syntax, notation, axiom, sorry.
-/
import Derived.Test.YtfiielibnnodkaaChecked
import GoSem.Claim
import GoSem.ClaimJoined
import GoSem.ClaimMapViews
import Derived.JoinedTies
import Derived.KernelRfl
namespace Go.Proofs.Ytfiielibnnodkaa
/- THE CELL 'sum', in the pinned program and in every row, IS THE sha256 OF THE DUMP (.gsa) THAT YtfiielibnnodkaaProg.lean LOADS. Nothing in Lean hashes anything: it is a label: what it is worth is what the hold of that sum in a sandbox is worth. -/
noncomputable def Try.pinned : Pinned := { name := "ytfiielibnnodkaa", sum := "a0f8976f5c7d9c2802466d12958ab97c0752077fa49b29da60ad3170b2ae55f9", checked := Try.checked }
namespace Rows
def none {H : Type} : Left H := { results := [], args := [] }

/-- 'marblerunlaw05.NetEqual': WHATEVER THE INPUT: true; the input reads as it did. -/
def netEqualSpec : ChangeSpec := { name := "netEqual", fn := fun _ => fun
  | [d1, d2, d3] => { results := [.lit (.bool true)], args := [d1, d2, d3] }
  | _ => none }
def netEqualRow : OpenClaim := { program := "ytfiielibnnodkaa", sum := "a0f8976f5c7d9c2802466d12958ab97c0752077fa49b29da60ad3170b2ae55f9", func := "marblerun/marblerunlaw05.NetEqual", spec := "netEqual", unfollowed := true, recurses := true, apart := false }
def NetEqualSaid : Prop := netEqualRow.holds Try.pinned (OpenSpec.ofChange netEqualSpec)

/-- ITS FALSE NEIGHBOUR: 'it returns false'. Refute it at one input. -/
def netEqualWrong : ChangeSpec := { name := "netEqual", fn := fun _ => fun
  | [d1, d2, d3] => { results := [.lit (.bool false)], args := [d1, d2, d3] }
  | _ => none }
def NetEqualWrongFalsely : Prop := netEqualRow.holds Try.pinned (OpenSpec.ofChange netEqualWrong)

/-- 'marblerunlaw06.ParseRaw': WHATEVER THE INPUT: true; the input reads as it did. -/
def parseRawSpec : ChangeSpec := { name := "parseRaw", fn := fun _ => fun
  | [d] => { results := [.lit (.bool true)], args := [d] }
  | _ => none }
def parseRawRow : OpenClaim := { program := "ytfiielibnnodkaa", sum := "a0f8976f5c7d9c2802466d12958ab97c0752077fa49b29da60ad3170b2ae55f9", func := "marblerun/marblerunlaw06.ParseRaw", spec := "parseRaw", inPlace := ["internal/bytealg.IndexByte", "internal/bytealg.IndexByteString", "internal/bytealg.IndexString", "internal/bytealg.Count", "internal/bytealg.Index"], unfollowed := true, recurses := true, named := ["internal/bytealg.MaxLen"], apart := false }
def ParseRawSaid : Prop := parseRawRow.holds Try.pinned (OpenSpec.ofChange parseRawSpec)

/-- ITS FALSE NEIGHBOUR: 'it returns false'. Refute it at one input. -/
def parseRawWrong : ChangeSpec := { name := "parseRaw", fn := fun _ => fun
  | [d] => { results := [.lit (.bool false)], args := [d] }
  | _ => none }
def ParseRawWrongFalsely : Prop := parseRawRow.holds Try.pinned (OpenSpec.ofChange parseRawWrong)

/-- 'marblerunlaw06.ParseWords': WHATEVER THE INPUT: true; the input reads as it did. -/
def parseWordsSpec : ChangeSpec := { name := "parseWords", fn := fun _ => fun
  | [d] => { results := [.lit (.bool true)], args := [d] }
  | _ => none }
def parseWordsRow : OpenClaim := { program := "ytfiielibnnodkaa", sum := "a0f8976f5c7d9c2802466d12958ab97c0752077fa49b29da60ad3170b2ae55f9", func := "marblerun/marblerunlaw06.ParseWords", spec := "parseWords", inPlace := ["internal/bytealg.IndexByte", "internal/bytealg.IndexByteString", "internal/bytealg.IndexString", "internal/bytealg.Count", "internal/bytealg.Index"], unfollowed := true, recurses := true, named := ["internal/bytealg.MaxLen"], apart := false }
def ParseWordsSaid : Prop := parseWordsRow.holds Try.pinned (OpenSpec.ofChange parseWordsSpec)

/-- ITS FALSE NEIGHBOUR: 'it returns false'. Refute it at one input. -/
def parseWordsWrong : ChangeSpec := { name := "parseWords", fn := fun _ => fun
  | [d] => { results := [.lit (.bool false)], args := [d] }
  | _ => none }
def ParseWordsWrongFalsely : Prop := parseWordsRow.holds Try.pinned (OpenSpec.ofChange parseWordsWrong)

/-- 'marblerunlaw06.ParseNear': WHATEVER THE INPUT: true; the input reads as it did. -/
def parseNearSpec : ChangeSpec := { name := "parseNear", fn := fun _ => fun
  | [d1, d2, d3, d4] => { results := [.lit (.bool true)], args := [d1, d2, d3, d4] }
  | _ => none }
def parseNearRow : OpenClaim := { program := "ytfiielibnnodkaa", sum := "a0f8976f5c7d9c2802466d12958ab97c0752077fa49b29da60ad3170b2ae55f9", func := "marblerun/marblerunlaw06.ParseNear", spec := "parseNear", inPlace := ["internal/bytealg.IndexByte", "internal/bytealg.IndexByteString", "internal/bytealg.IndexString", "internal/bytealg.Count", "internal/bytealg.Index"], unfollowed := true, recurses := true, named := ["internal/bytealg.MaxLen"], apart := false }
def ParseNearSaid : Prop := parseNearRow.holds Try.pinned (OpenSpec.ofChange parseNearSpec)

/-- ITS FALSE NEIGHBOUR: 'it returns false'. Refute it at one input. -/
def parseNearWrong : ChangeSpec := { name := "parseNear", fn := fun _ => fun
  | [d1, d2, d3, d4] => { results := [.lit (.bool false)], args := [d1, d2, d3, d4] }
  | _ => none }
def ParseNearWrongFalsely : Prop := parseNearRow.holds Try.pinned (OpenSpec.ofChange parseNearWrong)

/-- 'marblerunlaw06.ParseTexts': WHATEVER THE INPUT: true; the input reads as it did. -/
def parseTextsSpec : ChangeSpec := { name := "parseTexts", fn := fun _ => fun
  | [d] => { results := [.lit (.bool true)], args := [d] }
  | _ => none }
def parseTextsRow : OpenClaim := { program := "ytfiielibnnodkaa", sum := "a0f8976f5c7d9c2802466d12958ab97c0752077fa49b29da60ad3170b2ae55f9", func := "marblerun/marblerunlaw06.ParseTexts", spec := "parseTexts", inPlace := ["internal/bytealg.IndexByte", "internal/bytealg.IndexByteString", "internal/bytealg.IndexString", "internal/bytealg.Count", "internal/bytealg.Index"], unfollowed := true, recurses := true, named := ["internal/bytealg.MaxLen"], apart := false }
def ParseTextsSaid : Prop := parseTextsRow.holds Try.pinned (OpenSpec.ofChange parseTextsSpec)

/-- ITS FALSE NEIGHBOUR: 'it returns false'. Refute it at one input. -/
def parseTextsWrong : ChangeSpec := { name := "parseTexts", fn := fun _ => fun
  | [d] => { results := [.lit (.bool false)], args := [d] }
  | _ => none }
def ParseTextsWrongFalsely : Prop := parseTextsRow.holds Try.pinned (OpenSpec.ofChange parseTextsWrong)

/-- 'marblerunlaw06.ParseDefaults': WHATEVER THE INPUT: true; the input reads as it did. -/
def parseDefaultsSpec : ChangeSpec := { name := "parseDefaults", fn := fun _ => fun
  | [d1, d2, d3, d4] => { results := [.lit (.bool true)], args := [d1, d2, d3, d4] }
  | _ => none }
def parseDefaultsRow : OpenClaim := { program := "ytfiielibnnodkaa", sum := "a0f8976f5c7d9c2802466d12958ab97c0752077fa49b29da60ad3170b2ae55f9", func := "marblerun/marblerunlaw06.ParseDefaults", spec := "parseDefaults", inPlace := ["internal/bytealg.IndexByte", "internal/bytealg.IndexByteString", "internal/bytealg.IndexString", "internal/bytealg.Count", "internal/bytealg.Index"], unfollowed := true, recurses := true, named := ["internal/bytealg.MaxLen"], apart := false }
def ParseDefaultsSaid : Prop := parseDefaultsRow.holds Try.pinned (OpenSpec.ofChange parseDefaultsSpec)

/-- ITS FALSE NEIGHBOUR: 'it returns false'. Refute it at one input. -/
def parseDefaultsWrong : ChangeSpec := { name := "parseDefaults", fn := fun _ => fun
  | [d1, d2, d3, d4] => { results := [.lit (.bool false)], args := [d1, d2, d3, d4] }
  | _ => none }
def ParseDefaultsWrongFalsely : Prop := parseDefaultsRow.holds Try.pinned (OpenSpec.ofChange parseDefaultsWrong)

/- THE SECOND FORM. 'bulk': how many values and letters a reading holds, each counted each time it is reached (what is shared counts as often as it is met; a slice's spare places count too). A statement '..UptoSaid' is the law's where the arguments, and the package variables that the reading takes, are together of bulk at most 1048576: NARROWER than '..Said'. Prove '..Said' where nothing that the law and all that it calls make is longer than what came in: it says more and counts as full. Else prove '..UptoSaid'. A law counts once. -/
mutual
def uptoBulk {H : Type} : DataW H → Nat
  | .lit (.string bytes) => bytes.length + 1
  | .lit _ => 1
  | .nil => 1
  | .ptr d => uptoBulk d + 1
  | .slice elems spare => uptoBulkAll elems + uptoBulkAll spare + 1
  | .agg parts => uptoBulkAll parts + 1
  | .iface _ d => uptoBulk d + 1
  | .map entries => uptoBulkEntries entries + 1
  | .held _ => 1
def uptoBulkAll {H : Type} : List (DataW H) → Nat
  | [] => 0
  | d :: r => uptoBulk d + uptoBulkAll r
def uptoBulkEntries {H : Type} : List (Lit × DataW H) → Nat
  | [] => 0
  | x :: r => uptoBulkEntry x + uptoBulkEntries r
def uptoBulkEntry {H : Type} : Lit × DataW H → Nat
  | (.string bytes, d) => bytes.length + uptoBulk d + 1
  | (_, d) => uptoBulk d + 1
 end
def uptoSmall : (H : Type) → List (DataW H) → Bool := fun _ ds => decide (uptoBulkAll ds ≤ 1048576)
def OpenSpec.upto (s : _root_.Go.ChangeSpec) : _root_.Go.OpenSpec := { _root_.Go.OpenSpec.ofChange s with cond := some uptoSmall }

/-- 'marblerunlaw05.NetEqual', WHERE WHAT IT READS IS OF BULK AT MOST 1048576: true; the input reads as it did. -/
def netEqualUptoRow : OpenClaim := { program := "ytfiielibnnodkaa", sum := "a0f8976f5c7d9c2802466d12958ab97c0752077fa49b29da60ad3170b2ae55f9", func := "marblerun/marblerunlaw05.NetEqual", spec := "netEqual", unfollowed := true, recurses := true, apart := false, narrowed := true }
def NetEqualUptoSaid : Prop := netEqualUptoRow.holds Try.pinned (OpenSpec.upto netEqualSpec)

/-- 'marblerunlaw06.ParseRaw', WHERE WHAT IT READS IS OF BULK AT MOST 1048576: true; the input reads as it did. -/
def parseRawUptoRow : OpenClaim := { program := "ytfiielibnnodkaa", sum := "a0f8976f5c7d9c2802466d12958ab97c0752077fa49b29da60ad3170b2ae55f9", func := "marblerun/marblerunlaw06.ParseRaw", spec := "parseRaw", inPlace := ["internal/bytealg.IndexByte", "internal/bytealg.IndexByteString", "internal/bytealg.IndexString", "internal/bytealg.Count", "internal/bytealg.Index"], unfollowed := true, recurses := true, named := ["internal/bytealg.MaxLen"], apart := false, narrowed := true }
def ParseRawUptoSaid : Prop := parseRawUptoRow.holds Try.pinned (OpenSpec.upto parseRawSpec)

/-- 'marblerunlaw06.ParseWords', WHERE WHAT IT READS IS OF BULK AT MOST 1048576: true; the input reads as it did. -/
def parseWordsUptoRow : OpenClaim := { program := "ytfiielibnnodkaa", sum := "a0f8976f5c7d9c2802466d12958ab97c0752077fa49b29da60ad3170b2ae55f9", func := "marblerun/marblerunlaw06.ParseWords", spec := "parseWords", inPlace := ["internal/bytealg.IndexByte", "internal/bytealg.IndexByteString", "internal/bytealg.IndexString", "internal/bytealg.Count", "internal/bytealg.Index"], unfollowed := true, recurses := true, named := ["internal/bytealg.MaxLen"], apart := false, narrowed := true }
def ParseWordsUptoSaid : Prop := parseWordsUptoRow.holds Try.pinned (OpenSpec.upto parseWordsSpec)

/-- 'marblerunlaw06.ParseNear', WHERE WHAT IT READS IS OF BULK AT MOST 1048576: true; the input reads as it did. -/
def parseNearUptoRow : OpenClaim := { program := "ytfiielibnnodkaa", sum := "a0f8976f5c7d9c2802466d12958ab97c0752077fa49b29da60ad3170b2ae55f9", func := "marblerun/marblerunlaw06.ParseNear", spec := "parseNear", inPlace := ["internal/bytealg.IndexByte", "internal/bytealg.IndexByteString", "internal/bytealg.IndexString", "internal/bytealg.Count", "internal/bytealg.Index"], unfollowed := true, recurses := true, named := ["internal/bytealg.MaxLen"], apart := false, narrowed := true }
def ParseNearUptoSaid : Prop := parseNearUptoRow.holds Try.pinned (OpenSpec.upto parseNearSpec)

/-- 'marblerunlaw06.ParseTexts', WHERE WHAT IT READS IS OF BULK AT MOST 1048576: true; the input reads as it did. -/
def parseTextsUptoRow : OpenClaim := { program := "ytfiielibnnodkaa", sum := "a0f8976f5c7d9c2802466d12958ab97c0752077fa49b29da60ad3170b2ae55f9", func := "marblerun/marblerunlaw06.ParseTexts", spec := "parseTexts", inPlace := ["internal/bytealg.IndexByte", "internal/bytealg.IndexByteString", "internal/bytealg.IndexString", "internal/bytealg.Count", "internal/bytealg.Index"], unfollowed := true, recurses := true, named := ["internal/bytealg.MaxLen"], apart := false, narrowed := true }
def ParseTextsUptoSaid : Prop := parseTextsUptoRow.holds Try.pinned (OpenSpec.upto parseTextsSpec)

/-- 'marblerunlaw06.ParseDefaults', WHERE WHAT IT READS IS OF BULK AT MOST 1048576: true; the input reads as it did. -/
def parseDefaultsUptoRow : OpenClaim := { program := "ytfiielibnnodkaa", sum := "a0f8976f5c7d9c2802466d12958ab97c0752077fa49b29da60ad3170b2ae55f9", func := "marblerun/marblerunlaw06.ParseDefaults", spec := "parseDefaults", inPlace := ["internal/bytealg.IndexByte", "internal/bytealg.IndexByteString", "internal/bytealg.IndexString", "internal/bytealg.Count", "internal/bytealg.Index"], unfollowed := true, recurses := true, named := ["internal/bytealg.MaxLen"], apart := false, narrowed := true }
def ParseDefaultsUptoSaid : Prop := parseDefaultsUptoRow.holds Try.pinned (OpenSpec.upto parseDefaultsSpec)

end Rows
end Go.Proofs.Ytfiielibnnodkaa
