/-
  A region whose operations only read, and whose callees only make new memory, walked once in the order of the text.
  Conditions: none beyond each theorem's own.
-/
import Derived.Test.YtpfdmmidomofdaaNetHand
namespace Go.Proofs.Ytpfdmmidomofdaa
open Go.RowKit

/-- a world in which all that w had is as it was -/
structure NewBy (w : World) where
  to : World
  below : Below w.heap.size w to

instance (w : World) : Inhabited (NewBy w) := ⟨⟨w, Below.refl _ _⟩⟩

theorem wp_region_new {P : Program} {id : Nat} {Q : Exit → Act → World → Prop} {a : Act} {w : World} {l : List Oper} (hm : P.follows .mixedOrders = true) (hB : Region.lexB .any l.toArray = true)
    (h : wpQuiet P l.toArray (fun w' => ∃ p : NewBy w, w' = p.to) (fun a' => ∀ w', (∃ p : NewBy w, w' = p.to) → Q .normal a' w') l a) : (Code.region id l.toArray true).wp P Q a w :=
  wp_region_quiet (C := fun w' => ∃ p : NewBy w, w' = p.to) hm hB ⟨⟨w.drew, (Below.refl _ _).drew⟩, rfl⟩ (by simpa using h)

theorem Calls.new_of {P : Program} {f : FuncId} {args : Array Value} {w : World} {p : NewBy w} {v : Value}
    (h : Calls P f args p.to fun e w' => e = .returned v ∧ Below p.to.heap.size p.to w') : Calls P f args p.to fun e w'' => e = .returned v ∧ ∃ q : NewBy w, w'' = q.to :=
  h.mono fun _ w' h => ⟨h.1, ⟨w', p.below.trans (h.2.mono p.below.size)⟩, rfl⟩

theorem NewBy.cell {w : World} {b o : Nat} {v : Value} (hb : b < w.heap.size) (hc : w.cell? ⟨b, o, none⟩ = some v) (p : NewBy w) : p.to.cell? ⟨b, o, none⟩ = some v :=
  (p.below.cell (p := ⟨b, o, none⟩) hb).trans hc

end Go.Proofs.Ytpfdmmidomofdaa
