/-
  The walk of the law NetNear, whatever the draft: it returns true.
  Conditions: none beyond the theorem's own.
-/
import Derived.Test.YtjkkddocopolcaaNearWalk
import Derived.Test.YtjkkddocopolcaaNearBig
namespace Go.Proofs.Ytjkkddocopolcaa
open Go.RowKit

theorem near_law {w : World} {aT aA : Option Addr} {cTok cA : Nat} {ts : List Nat} {acs : List Ac} (h : DraftAt w (.slice aT ts.length cTok) (.slice aA acs.length cA) ts acs) (how A n : Int) (s : ByteArray) (h0 : 0 ≤ how) (h1 : how ≤ 255) (g0 : 0 ≤ A) (g1 : A ≤ 255) :
    Calls Try.prog 4 #[.agg #[.slice aT ts.length cTok, .slice aA acs.length cA], .int .u8 how, .int .u8 A, .int .i64 n, .string s] w fun e w' => e = .returned (.bool true) ∧ Below w.heap.size w w' := by
  by_cases h60 : ts.length ≤ 60
  · by_cases h12 : acs.length ≤ 12
    · by_cases h30 : s.size ≤ 30
      · obtain ⟨k, rfl⟩ : ∃ k : Nat, how = k := ⟨how.toNat, by omega⟩
        obtain ⟨a, rfl⟩ : ∃ a : Nat, A = a := ⟨A.toNat, by omega⟩
        exact near_small h k a (by omega) (by omega) n s h60 h12 h30
      · exact near_big how A n s (RowAt.max h.toks) (RowAt.max h.acts) (.inr (.inr ⟨h60, h12, by omega⟩))
    · exact near_big how A n s (RowAt.max h.toks) (RowAt.max h.acts) (.inr (.inl ⟨h60, by omega⟩))
  · exact near_big how A n s (RowAt.max h.toks) (RowAt.max h.acts) (.inl (by omega))
end Go.Proofs.Ytjkkddocopolcaa
