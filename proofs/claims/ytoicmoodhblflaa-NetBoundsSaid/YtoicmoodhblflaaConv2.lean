/-
  Two bytes as a text; texts behind each other.
  Conditions: none beyond each theorem's own.
-/
import Derived.Test.YtoicmoodhblflaaMakeA
namespace Go.Proofs.Ytoicmoodhblflaa
open Go.RowKit
set_option linter.unusedVariables false

/-- two bytes as a text -/
theorem run_conv2 (w : World) (m d : Nat) (hm : m < 100) (hd : d < 100) : (convert 32 9 (.slice (some ⟨w.heap.size, 0, none⟩) 2 2)).run Try.prog (w.alloc (.cells #[.int .u8 (97 + (m : Int)), .int .u8 (97 + (d : Int))] 5)) = .ok (.string (bs [UInt8.ofNat (97 + m), UInt8.ofNat (97 + d)])) (w.alloc (.cells #[.int .u8 (97 + (m : Int)), .int .u8 (97 + (d : Int))] 5)) := by
  have hz : ∀ k : Nat, k < 100 → zi (UInt8.ofNat (97 + k)) = 97 + (k : Int) := by
    intro k hk
    unfold zi
    have : (UInt8.ofNat (97 + k)).toNat = 97 + k := by simp; omega
    rw [this]; omega
  have h1 := hz m hm
  have h2 := hz d hd
  generalize UInt8.ofNat (97 + m) = x at h1 ⊢
  generalize UInt8.ofNat (97 + d) = y at h2 ⊢
  have hcv := (BytesAt.str (w := w.alloc (.cells #[.int .u8 (zi x), .int .u8 (zi y)] 5)) (A := some ⟨w.heap.size, 0, none⟩) (n := 2) (l := [x, y]) ⟨rfl, fun _ => ⟨_, _, rfl, by simp, fun i z hx => by
    rw [Nat.zero_add, cell_marked]
    match i, hx with
    | 0, hx => simp at hx; subst hx; rfl
    | 1, hx => simp at hx; subst hx; rfl⟩⟩ 2)
  rw [h1, h2] at hcv
  exact hcv

theorem bs_cat (a b : List UInt8) : bs a ++ bs b = bs (a ++ b) := by
  apply ByteArray.ext; rw [ByteArray.data_append]; simp [bs]

end Go.Proofs.Ytoicmoodhblflaa
