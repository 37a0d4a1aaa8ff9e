/-
  The walk of the law NetFirst: for all its inputs it returns true.
  Conditions: none.
-/
import Derived.Test.YtjkkddocopolcaaFirstA
import Derived.Test.YtjkkddocopolcaaFirstB
import Derived.Test.YtjkkddocopolcaaFirstC
import Derived.Test.YtjkkddocopolcaaFirstD
namespace Go.Proofs.Ytjkkddocopolcaa
open Go.RowKit

theorem first_law (a b c d e : Bool) (w : World) : Calls Try.prog 8 #[.bool a, .bool b, .bool c, .bool d, .bool e] w fun e w' => e = .returned (.bool true) ∧ Below w.heap.size w w' := by
  cases a <;> cases b <;> cases c <;> cases d <;> cases e
  · exact first_00000 w
  · exact first_00001 w
  · exact first_00010 w
  · exact first_00011 w
  · exact first_00100 w
  · exact first_00101 w
  · exact first_00110 w
  · exact first_00111 w
  · exact first_01000 w
  · exact first_01001 w
  · exact first_01010 w
  · exact first_01011 w
  · exact first_01100 w
  · exact first_01101 w
  · exact first_01110 w
  · exact first_01111 w
  · exact first_10000 w
  · exact first_10001 w
  · exact first_10010 w
  · exact first_10011 w
  · exact first_10100 w
  · exact first_10101 w
  · exact first_10110 w
  · exact first_10111 w
  · exact first_11000 w
  · exact first_11001 w
  · exact first_11010 w
  · exact first_11011 w
  · exact first_11100 w
  · exact first_11101 w
  · exact first_11110 w
  · exact first_11111 w
end Go.Proofs.Ytjkkddocopolcaa
