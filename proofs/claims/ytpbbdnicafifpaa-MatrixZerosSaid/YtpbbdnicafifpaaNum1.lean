/-
  What the calls Add, Mul and Gcd of package whole, and the document's own Add and Gcd, come to for all ints (Gcd: above the smallest int). Small facts on rows of ints in memory: a block that holds just these ints, and a slice that reads as a list of ints. What Mul of package whole and the document's own Mul come to for all ints. What the document's own Mul comes to for all ints. The document's own Mul is the product where that is an int, and (0, false) where it is none. What Dot of package whole and the document's own Dot come to: the sum of the products as far as both lists go, or (0, false) where a product or a sum on the way is no int.
  Conditions: none beyond each theorem's own.
-/
import Derived.Test.YtpbbdnicafifpaaRows
import Derived.WalkKit
import Derived.RegionTactic
import Derived.Deep.QuietTactic
import Derived.BigQuiet
import Derived.Lib.Hide
import Derived.Laws.CopyOwn
import Derived.Laws.OwnMore
import Derived.Lib.SmallJoins
import Derived.Deep.Draws
/-! ## Arith -/
namespace Go.Proofs.Ytpbbdnicafifpaa
open Go.RowKit

/-- an int -/
def I64 (a : Int) : Prop := -9223372036854775808 ≤ a ∧ a ≤ 9223372036854775807

theorem add_ok (a b : Int) (w : World) (ha : I64 a) (hb : I64 b) (hs : I64 (a + b)) :
    Calls Try.prog 71 #[.int .i64 a, .int .i64 b] w fun e w' => e = .returned (.tuple #[.int .i64 (a + b), .bool true]) ∧ w = w' := by
  unfold I64 at ha hb hs
  obtain ⟨ha1, ha2⟩ := ha
  obtain ⟨hb1, hb2⟩ := hb
  obtain ⟨hs1, hs2⟩ := hs
  by_cases h : b < 0
  · have h1 : decide (a + b < a) = true := by simp; omega
    go_enter Try.func71, Try.ntmps71
    go_wp2
    go_ret2
    exact ⟨rfl, rfl⟩
  · have h1 : decide (a + b < a) = false := by simp; omega
    go_enter Try.func71, Try.ntmps71
    go_wp2
    go_ret2
    exact ⟨rfl, rfl⟩

theorem add_no (a b : Int) (w : World) (ha : I64 a) (hb : I64 b) (hs : ¬ I64 (a + b)) :
    Calls Try.prog 71 #[.int .i64 a, .int .i64 b] w fun e w' => e = .returned (.tuple #[.int .i64 0, .bool false]) ∧ w = w' := by
  unfold I64 at ha hb hs
  obtain ⟨ha1, ha2⟩ := ha
  obtain ⟨hb1, hb2⟩ := hb
  by_cases h : b < 0
  · have h1 : decide (wrap64 (a + b) < a) = false := by unfold wrap64; simp; omega
    have h2 : decide (b < 0) = true := by simpa using h
    clear hs
    go_enter Try.func71, Try.ntmps71
    go_wp2
    go_ret2
    exact ⟨rfl, rfl⟩
  · have h1 : decide (wrap64 (a + b) < a) = true := by unfold wrap64; simp; omega
    have h2 : decide (b < 0) = false := by simpa using h
    clear hs
    go_enter Try.func71, Try.ntmps71
    go_wp2
    go_ret2
    exact ⟨rfl, rfl⟩

theorem radd_ok (a b : Int) (w : World) (ha : I64 a) (hb : I64 b) (hs : I64 (a + b)) :
    Calls Try.prog 50 #[.int .i64 a, .int .i64 b] w fun e w' => e = .returned (.tuple #[.int .i64 (a + b), .bool true]) ∧ w = w' := by
  unfold I64 at ha hb hs
  obtain ⟨ha1, ha2⟩ := ha
  obtain ⟨hb1, hb2⟩ := hb
  obtain ⟨hs1, hs2⟩ := hs
  go_enter Try.func50, Try.ntmps50
  go_wp2
  all_goals
    go_ret2
    exact ⟨rfl, rfl⟩

theorem radd_no (a b : Int) (w : World) (ha : I64 a) (hb : I64 b) (hs : ¬ I64 (a + b)) :
    Calls Try.prog 50 #[.int .i64 a, .int .i64 b] w fun e w' => e = .returned (.tuple #[.int .i64 0, .bool false]) ∧ w = w' := by
  unfold I64 at ha hb hs
  obtain ⟨ha1, ha2⟩ := ha
  obtain ⟨hb1, hb2⟩ := hb
  by_cases h : b < 0
  · have h1 : a < -9223372036854775808 - b := by omega
    clear hs
    go_enter Try.func50, Try.ntmps50
    go_wp2
    all_goals
      go_ret2
      exact ⟨rfl, rfl⟩
  · have h1 : 9223372036854775807 - b < a := by omega
    have h2 : 0 < b := by omega
    clear hs
    go_enter Try.func50, Try.ntmps50
    go_wp2
    all_goals
      go_ret2
      exact ⟨rfl, rfl⟩

theorem gcd_step (x y : Int) : Int.gcd y (x.tmod y) = Int.gcd x y := by
  unfold Int.gcd
  rw [Int.natAbs_tmod, Nat.gcd_comm, ← Nat.gcd_rec, Nat.gcd_comm]

theorem tmod_lt (x y : Int) (h : y ≠ 0) : (x.tmod y).natAbs < y.natAbs := by
  rw [Int.natAbs_tmod]; exact Nat.mod_lt _ (by omega)

theorem ret_int1 {k : IntKind} {a b : Int} (h : a = b) : Ending.returned (.int k a) = .returned (.int k b) := by rw [h]

theorem drewN_of1 (w wr w' : World) (n m : Nat) (h1 : wr = w.drewN n) (h2 : w' = wr.drewN m) : ∃ k, w' = w.drewN k := by
  subst h1 h2
  exact ⟨n + m, by simp [World.drewN, Nat.add_assoc]⟩

end Go.Proofs.Ytpbbdnicafifpaa

/-! ## Mem1 -/
namespace Go.Proofs.Ytpbbdnicafifpaa
open Go.RowKit

/-- block g holds just these ints, and may be written -/
def IRow (w : World) (g : Nat) (xs : List Int) : Prop := w.heap[g]? = some (.cells (xs.map (Value.int .i64)).toArray 3 (0, 0))

/-- a slice at this address, as long as the list, holds the list's ints -/
def Reads (w : World) (a : Option Addr) (zs : List Int) : Prop :=
  zs = [] ∨ ∃ b off, a = some ⟨b, off, none⟩ ∧ b < w.heap.size ∧ ∀ i, i < zs.length → w.cell? ⟨b, off + i, none⟩ = some (.int .i64 (zs.getD i 0))

section
variable {w w' : World} {g : Nat} {xs : List Int}

theorem IRow.lt (h : IRow w g xs) : g < w.heap.size := by
  rcases Nat.lt_or_ge g w.heap.size with hl | hg
  · exact hl
  · unfold IRow at h; rw [Array.getElem?_eq_none hg] at h; cases h

theorem IRow.cell (h : IRow w g xs) (i : Nat) (hi : i < xs.length) : w.cell? ⟨g, i, none⟩ = some (.int .i64 (xs.getD i 0)) := by
  rw [cell_of_row w g i _ 3 (0, 0) h]
  simp [hi]

theorem IRow.notFrozen (h : IRow w g xs) (i : Nat) : w.frozen? ⟨g, i, none⟩ = false := by
  unfold IRow at h
  simp [World.frozen?, h]

theorem IRow.drewN (h : IRow w g xs) (n : Nat) : IRow (w.drewN n) g xs := h

theorem IRow.drew (h : IRow w g xs) : IRow w.drew g xs := h

theorem IRow.below {B : Nat} (h : IRow w g xs) (hb : Below B w w') (hg : g < B) : IRow w' g xs := (hb.block g hg).trans h

theorem IRow.alloc (h : IRow w g xs) (o : Obj) : IRow (w.alloc o) g xs := (Below.heap_alloc w o g h.lt).trans h

theorem IRow.put (h : IRow w g xs) (i : Nat) (v : Int) : IRow (w.setCell ⟨g, i, none⟩ (.int .i64 v)) g (xs.set i v) := by
  have := Joins.block_setCell (i := i) h (.int .i64 v)
  unfold IRow
  rw [this]
  simp [List.map_set]

theorem IRow.reads (h : IRow w g xs) : Reads w (some ⟨g, 0, none⟩) xs :=
  .inr ⟨g, 0, rfl, h.lt, fun i hi => by rw [Nat.zero_add]; exact h.cell i hi⟩

theorem IRow.owns (h : IRow w g xs) {base : Nat} (hb : base ≤ g) (hm : xs.length ≤ maxLen) : w.ownsRow base 3 1 (.slice (some ⟨g, 0, none⟩) xs.length xs.length) xs.length (xs.map (Value.int .i64)) := by
  refine ⟨by simp, .inr ⟨g, xs.length, _, rfl, hb, h, Nat.le_refl _, hm, by simp, ?_⟩⟩
  simp only [Nat.mul_one]
  exact List.take_of_length_le (by simp)

end

theorem Reads.mono {w w' : World} {a : Option Addr} {zs : List Int} (h : Reads w a zs) (hs : w.heap.size ≤ w'.heap.size) (hk : ∀ p : Addr, p.block < w.heap.size → w'.cell? p = w.cell? p) : Reads w' a zs := by
  rcases h with h | ⟨b, off, ha, hb, hc⟩
  · exact .inl h
  · exact .inr ⟨b, off, ha, by omega, fun i hi => (hk _ hb).trans (hc i hi)⟩

theorem Reads.below {w w' : World} {a : Option Addr} {zs : List Int} (h : Reads w a zs) (hb : Below w.heap.size w w') : Reads w' a zs :=
  h.mono hb.size fun _ hp => hb.cell hp

theorem below_drewN {B : Nat} {a w : World} (h : Below B a w) (n : Nat) : Below B a (w.drewN n) := ⟨h.os, h.tape, h.output, h.size, h.block⟩

end Go.Proofs.Ytpbbdnicafifpaa

/-! ## Mul1 -/
namespace Go.Proofs.Ytpbbdnicafifpaa
open Go.RowKit

theorem mul_abs_lt {r b : Int} (h : r.natAbs < b.natAbs) (hb : I64 b) : -9223372036854775808 < r ∧ r < 9223372036854775808 := by
  unfold I64 at hb; omega

theorem quo_back (a b : Int) (hb0 : b ≠ 0) : (a * b).tdiv b = a := Int.mul_tdiv_cancel a hb0

theorem quo_off (a b : Int) (hb0 : b ≠ 0) (hb : I64 b) (hs : ¬ I64 (a * b)) : (wrap64 (a * b)).tdiv b ≠ a := by
  intro h
  have h1 := Int.mul_tdiv_add_tmod (wrap64 (a * b)) b
  rw [h] at h1
  have h2 := tmod_lt (wrap64 (a * b)) b hb0
  have h3 := mul_abs_lt h2 hb
  have h4 : b * a = a * b := Int.mul_comm _ _
  rw [h4] at h1
  unfold I64 at hs
  unfold wrap64 at h1 h3
  generalize a * b = p at *
  omega

theorem wrap_id (n : Int) (h : I64 n) : wrap64 n = n := by
  unfold I64 at h; unfold wrap64; omega

theorem wrap_range (n : Int) : I64 (wrap64 n) := by
  unfold I64 wrap64; omega

theorem quo_is (a b : Int) (hb0 : b ≠ 0) (ha : I64 a) (hs : I64 (a * b)) : (wrap64 ((wrap64 (a * b)).tdiv b) != a) = false := by
  rw [wrap_id _ hs, quo_back a b hb0, wrap_id _ ha]; simp

theorem quo_isnt (a b : Int) (hb0 : b ≠ 0) (ha : I64 a) (hb : I64 b) (hm : ¬ (a = -9223372036854775808 ∧ b = -1)) (hs : ¬ I64 (a * b)) : (wrap64 ((wrap64 (a * b)).tdiv b) != a) = true := by
  have hq := quo_off a b hb0 hb hs
  have h1 : b ≠ 1 := by rintro rfl; rw [Int.mul_one] at hs; exact hs ha
  have h2 : b ≠ -1 := by
    rintro rfl
    unfold I64 at ha hs; omega
  have h3 : I64 ((wrap64 (a * b)).tdiv b) := by
    have hr := wrap_range (a * b)
    have hn : ((wrap64 (a * b)).tdiv b).natAbs ≤ (wrap64 (a * b)).natAbs := by
      rw [Int.natAbs_tdiv]; exact Nat.div_le_self _ _
    have hn2 : ((wrap64 (a * b)).tdiv b).natAbs ≤ (wrap64 (a * b)).natAbs / 2 := by
      rw [Int.natAbs_tdiv]; exact Nat.div_le_div_left (by omega) (by omega)
    unfold I64 at hr ⊢
    generalize wrap64 (a * b) = p at *
    omega
  rw [wrap_id _ h3]
  simpa using hq

set_option maxRecDepth 10000 in
theorem mul_ok (a b : Int) (w : World) (ha : I64 a) (hb : I64 b) (hs : I64 (a * b)) :
    Calls Try.prog 70 #[.int .i64 a, .int .i64 b] w fun e w' => e = .returned (.tuple #[.int .i64 (a * b), .bool true]) ∧ w = w' := by
  by_cases h0 : b = 0
  · subst h0
    rw [Int.mul_zero]
    go_enter Try.func70, Try.ntmps70
    go_wp2
    go_ret2
    exact ⟨rfl, rfl⟩
  · have hq := quo_is a b h0 ha hs
    unfold I64 at ha hb hs
    obtain ⟨ha1, ha2⟩ := ha
    obtain ⟨hb1, hb2⟩ := hb
    obtain ⟨hs1, hs2⟩ := hs
    by_cases hm : a = -9223372036854775808
    · subst hm
      have hb3 : b ≠ -1 := by rintro rfl; omega
      go_enter Try.func70, Try.ntmps70
      go_wp2
      go_ret2
      exact ⟨rfl, rfl⟩
    · go_enter Try.func70, Try.ntmps70
      go_wp2
      go_ret2
      exact ⟨rfl, rfl⟩

theorem mul_no (a b : Int) (w : World) (ha : I64 a) (hb : I64 b) (hs : ¬ I64 (a * b)) :
    Calls Try.prog 70 #[.int .i64 a, .int .i64 b] w fun e w' => e = .returned (.tuple #[.int .i64 0, .bool false]) ∧ w = w' := by
  have h0 : b ≠ 0 := by rintro rfl; simp [I64] at hs
  by_cases hm : a = -9223372036854775808
  · by_cases hb1 : b = -1
    · subst hm hb1
      clear hs
      go_enter Try.func70, Try.ntmps70
      go_wp2
      go_ret2
      exact ⟨rfl, rfl⟩
    · have hq := quo_isnt a b h0 ha hb (by omega) hs
      subst hm
      clear hs
      go_enter Try.func70, Try.ntmps70
      go_wp2
      go_ret2
      exact ⟨rfl, rfl⟩
  · have hq := quo_isnt a b h0 ha hb (by omega) hs
    clear hs
    go_enter Try.func70, Try.ntmps70
    go_wp2
    go_ret2
    exact ⟨rfl, rfl⟩

theorem rmul_zero (a b : Int) (w : World) (h : a = 0 ∨ b = 0) :
    Calls Try.prog 49 #[.int .i64 a, .int .i64 b] w fun e w' => e = .returned (.tuple #[.int .i64 0, .bool true]) ∧ w = w' := by
  by_cases h1 : a = 0
  · subst h1
    go_enter Try.func49, Try.ntmps49
    go_wp2
    go_ret2
    exact ⟨rfl, rfl⟩
  · have h2 : b = 0 := by omega
    subst h2
    go_enter Try.func49, Try.ntmps49
    go_wp2
    go_ret2
    exact ⟨rfl, rfl⟩

theorem rmul_least (a b : Int) (w : World) (ha : a ≠ 0) (hb : b ≠ 0) (h : a = -9223372036854775808 ∨ b = -9223372036854775808) :
    Calls Try.prog 49 #[.int .i64 a, .int .i64 b] w fun e w' => e = .returned (if a = 1 ∨ b = 1 then .tuple #[.int .i64 (-9223372036854775808), .bool true] else .tuple #[.int .i64 0, .bool false]) ∧ w = w' := by
  by_cases h1 : a = -9223372036854775808
  · subst h1
    by_cases h2 : b = 1
    · subst h2
      go_enter Try.func49, Try.ntmps49
      go_wp2
      go_ret2
      exact ⟨rfl, rfl⟩
    · rw [if_neg (by omega)]
      go_enter Try.func49, Try.ntmps49
      go_wp2
      go_ret2
      exact ⟨rfl, rfl⟩
  · have h2 : b = -9223372036854775808 := by omega
    subst h2
    by_cases h3 : a = 1
    · subst h3
      go_enter Try.func49, Try.ntmps49
      go_wp2
      go_ret2
      exact ⟨rfl, rfl⟩
    · rw [if_neg (by omega)]
      go_enter Try.func49, Try.ntmps49
      go_wp2
      go_ret2
      exact ⟨rfl, rfl⟩

end Go.Proofs.Ytpbbdnicafifpaa

/-! ## Mulb -/
namespace Go.Proofs.Ytpbbdnicafifpaa
open Go.RowKit

theorem rmul_pp_ok (x y : Int) (w : World) (hx : 1 ≤ x) (hx2 : x ≤ 9223372036854775807) (hy : 1 ≤ y) (hy2 : y ≤ 9223372036854775807) (hq : x ≤ 9223372036854775807 / y) (hp1 : 1 ≤ x * y) (hp2 : x * y ≤ 9223372036854775807) :
    Calls Try.prog 49 #[.int .i64 x, .int .i64 y] w fun e w' => e = .returned (.tuple #[.int .i64 (x * y), .bool true]) ∧ w = w' := by
  have ea0 : (x == 0) = false := by simp; omega
  have eb0 : (y == 0) = false := by simp; omega
  have eam : (x == -9223372036854775808) = false := by rw [beq_eq_false_iff_ne]; omega
  have ebm : (y == -9223372036854775808) = false := by rw [beq_eq_false_iff_ne]; omega
  have da : decide (x < 0) = false := by simp; omega
  have db : decide (y < 0) = false := by simp; omega
  go_enter Try.func49, Try.ntmps49
  go_wp2
  all_goals
    go_ret2
    exact ⟨rfl, rfl⟩

theorem rmul_pp_no (x y : Int) (w : World) (hx : 1 ≤ x) (hx2 : x ≤ 9223372036854775807) (hy : 1 ≤ y) (hy2 : y ≤ 9223372036854775807) (hq : 9223372036854775807 / y < x) :
    Calls Try.prog 49 #[.int .i64 x, .int .i64 y] w fun e w' => e = .returned (.tuple #[.int .i64 0, .bool false]) ∧ w = w' := by
  have ea0 : (x == 0) = false := by simp; omega
  have eb0 : (y == 0) = false := by simp; omega
  have eam : (x == -9223372036854775808) = false := by rw [beq_eq_false_iff_ne]; omega
  have ebm : (y == -9223372036854775808) = false := by rw [beq_eq_false_iff_ne]; omega
  have da : decide (x < 0) = false := by simp; omega
  have db : decide (y < 0) = false := by simp; omega
  go_enter Try.func49, Try.ntmps49
  go_wp2
  all_goals
    go_ret2
    exact ⟨rfl, rfl⟩

theorem rmul_pn_ok (x y : Int) (w : World) (hx : 1 ≤ x) (hx2 : x ≤ 9223372036854775807) (hy : 1 ≤ y) (hy2 : y ≤ 9223372036854775807) (hq : x ≤ 9223372036854775807 / y) (hp1 : 1 ≤ x * y) (hp2 : x * y ≤ 9223372036854775807) :
    Calls Try.prog 49 #[.int .i64 x, .int .i64 (-y)] w fun e w' => e = .returned (.tuple #[.int .i64 (-(x * y)), .bool true]) ∧ w = w' := by
  have ea0 : (x == 0) = false := by simp; omega
  have eb0 : ((-y) == 0) = false := by simp; omega
  have eam : (x == -9223372036854775808) = false := by rw [beq_eq_false_iff_ne]; omega
  have ebm : ((-y) == -9223372036854775808) = false := by rw [beq_eq_false_iff_ne]; omega
  have da : decide (x < 0) = false := by simp; omega
  have db : decide (0 < y) = true := by simp; omega
  go_enter Try.func49, Try.ntmps49
  go_wp2
  all_goals
    go_ret2
    exact ⟨rfl, rfl⟩

theorem rmul_pn_least (x y : Int) (w : World) (hx : 1 ≤ x) (hx2 : x ≤ 9223372036854775807) (hy : 1 ≤ y) (hy2 : y ≤ 9223372036854775807) (hq : 9223372036854775807 / y < x) (he : (x % 2 == 0) = true) (hh : x / 2 ≤ 9223372036854775807 / y) (hp1 : 0 ≤ x / 2 * y) (hp2 : x / 2 * y ≤ 9223372036854775807) (hp : (x / 2 * y == 4611686018427387904) = true) :
    Calls Try.prog 49 #[.int .i64 x, .int .i64 (-y)] w fun e w' => e = .returned (.tuple #[.int .i64 (-9223372036854775808), .bool true]) ∧ w = w' := by
  have ea0 : (x == 0) = false := by simp; omega
  have eb0 : ((-y) == 0) = false := by simp; omega
  have eam : (x == -9223372036854775808) = false := by rw [beq_eq_false_iff_ne]; omega
  have ebm : ((-y) == -9223372036854775808) = false := by rw [beq_eq_false_iff_ne]; omega
  have da : decide (x < 0) = false := by simp; omega
  have db : decide (0 < y) = true := by simp; omega
  go_enter Try.func49, Try.ntmps49
  go_wp2
  all_goals
    go_ret2
    exact ⟨rfl, rfl⟩

theorem rmul_pn_no (x y : Int) (w : World) (hx : 1 ≤ x) (hx2 : x ≤ 9223372036854775807) (hy : 1 ≤ y) (hy2 : y ≤ 9223372036854775807) (hq : 9223372036854775807 / y < x)
    (c : (x % 2 == 0) = false ∨ ((x % 2 == 0) = true ∧ decide (x / 2 ≤ 9223372036854775807 / y) = false) ∨ ((x % 2 == 0) = true ∧ decide (x / 2 ≤ 9223372036854775807 / y) = true ∧ (wrap64 (x / 2 * y) == 4611686018427387904) = false))
    (d : (y % 2 == 0) = false ∨ ((y % 2 == 0) = true ∧ decide (y / 2 ≤ 9223372036854775807 / x) = false) ∨ ((y % 2 == 0) = true ∧ decide (y / 2 ≤ 9223372036854775807 / x) = true ∧ (wrap64 (y / 2 * x) == 4611686018427387904) = false)) :
    Calls Try.prog 49 #[.int .i64 x, .int .i64 (-y)] w fun e w' => e = .returned (.tuple #[.int .i64 0, .bool false]) ∧ w = w' := by
  have ea0 : (x == 0) = false := by simp; omega
  have eb0 : ((-y) == 0) = false := by simp; omega
  have eam : (x == -9223372036854775808) = false := by rw [beq_eq_false_iff_ne]; omega
  have ebm : ((-y) == -9223372036854775808) = false := by rw [beq_eq_false_iff_ne]; omega
  have da : decide (x < 0) = false := by simp; omega
  have db : decide (0 < y) = true := by simp; omega
  rcases c with c | ⟨c, c2⟩ | ⟨c, c2, c3⟩ <;> rcases d with d | ⟨d, d2⟩ | ⟨d, d2, d3⟩
  all_goals
    go_enter Try.func49, Try.ntmps49
    go_wp2
  all_goals
    go_ret2
    exact ⟨rfl, rfl⟩

theorem rmul_np_ok (x y : Int) (w : World) (hx : 1 ≤ x) (hx2 : x ≤ 9223372036854775807) (hy : 1 ≤ y) (hy2 : y ≤ 9223372036854775807) (hq : x ≤ 9223372036854775807 / y) (hp1 : 1 ≤ x * y) (hp2 : x * y ≤ 9223372036854775807) :
    Calls Try.prog 49 #[.int .i64 (-x), .int .i64 y] w fun e w' => e = .returned (.tuple #[.int .i64 (-(x * y)), .bool true]) ∧ w = w' := by
  have ea0 : ((-x) == 0) = false := by simp; omega
  have eb0 : (y == 0) = false := by simp; omega
  have eam : ((-x) == -9223372036854775808) = false := by rw [beq_eq_false_iff_ne]; omega
  have ebm : (y == -9223372036854775808) = false := by rw [beq_eq_false_iff_ne]; omega
  have da : decide (0 < x) = true := by simp; omega
  have db : decide (y < 0) = false := by simp; omega
  go_enter Try.func49, Try.ntmps49
  go_wp2
  all_goals
    go_ret2
    exact ⟨rfl, rfl⟩

theorem rmul_np_least (x y : Int) (w : World) (hx : 1 ≤ x) (hx2 : x ≤ 9223372036854775807) (hy : 1 ≤ y) (hy2 : y ≤ 9223372036854775807) (hq : 9223372036854775807 / y < x) (he : (x % 2 == 0) = true) (hh : x / 2 ≤ 9223372036854775807 / y) (hp1 : 0 ≤ x / 2 * y) (hp2 : x / 2 * y ≤ 9223372036854775807) (hp : (x / 2 * y == 4611686018427387904) = true) :
    Calls Try.prog 49 #[.int .i64 (-x), .int .i64 y] w fun e w' => e = .returned (.tuple #[.int .i64 (-9223372036854775808), .bool true]) ∧ w = w' := by
  have ea0 : ((-x) == 0) = false := by simp; omega
  have eb0 : (y == 0) = false := by simp; omega
  have eam : ((-x) == -9223372036854775808) = false := by rw [beq_eq_false_iff_ne]; omega
  have ebm : (y == -9223372036854775808) = false := by rw [beq_eq_false_iff_ne]; omega
  have da : decide (0 < x) = true := by simp; omega
  have db : decide (y < 0) = false := by simp; omega
  go_enter Try.func49, Try.ntmps49
  go_wp2
  all_goals
    go_ret2
    exact ⟨rfl, rfl⟩

theorem rmul_np_no (x y : Int) (w : World) (hx : 1 ≤ x) (hx2 : x ≤ 9223372036854775807) (hy : 1 ≤ y) (hy2 : y ≤ 9223372036854775807) (hq : 9223372036854775807 / y < x)
    (c : (x % 2 == 0) = false ∨ ((x % 2 == 0) = true ∧ decide (x / 2 ≤ 9223372036854775807 / y) = false) ∨ ((x % 2 == 0) = true ∧ decide (x / 2 ≤ 9223372036854775807 / y) = true ∧ (wrap64 (x / 2 * y) == 4611686018427387904) = false))
    (d : (y % 2 == 0) = false ∨ ((y % 2 == 0) = true ∧ decide (y / 2 ≤ 9223372036854775807 / x) = false) ∨ ((y % 2 == 0) = true ∧ decide (y / 2 ≤ 9223372036854775807 / x) = true ∧ (wrap64 (y / 2 * x) == 4611686018427387904) = false)) :
    Calls Try.prog 49 #[.int .i64 (-x), .int .i64 y] w fun e w' => e = .returned (.tuple #[.int .i64 0, .bool false]) ∧ w = w' := by
  have ea0 : ((-x) == 0) = false := by simp; omega
  have eb0 : (y == 0) = false := by simp; omega
  have eam : ((-x) == -9223372036854775808) = false := by rw [beq_eq_false_iff_ne]; omega
  have ebm : (y == -9223372036854775808) = false := by rw [beq_eq_false_iff_ne]; omega
  have da : decide (0 < x) = true := by simp; omega
  have db : decide (y < 0) = false := by simp; omega
  rcases c with c | ⟨c, c2⟩ | ⟨c, c2, c3⟩ <;> rcases d with d | ⟨d, d2⟩ | ⟨d, d2, d3⟩
  all_goals
    go_enter Try.func49, Try.ntmps49
    go_wp2
  all_goals
    go_ret2
    exact ⟨rfl, rfl⟩

theorem rmul_nn_ok (x y : Int) (w : World) (hx : 1 ≤ x) (hx2 : x ≤ 9223372036854775807) (hy : 1 ≤ y) (hy2 : y ≤ 9223372036854775807) (hq : x ≤ 9223372036854775807 / y) (hp1 : 1 ≤ x * y) (hp2 : x * y ≤ 9223372036854775807) :
    Calls Try.prog 49 #[.int .i64 (-x), .int .i64 (-y)] w fun e w' => e = .returned (.tuple #[.int .i64 (x * y), .bool true]) ∧ w = w' := by
  have ea0 : ((-x) == 0) = false := by simp; omega
  have eb0 : ((-y) == 0) = false := by simp; omega
  have eam : ((-x) == -9223372036854775808) = false := by rw [beq_eq_false_iff_ne]; omega
  have ebm : ((-y) == -9223372036854775808) = false := by rw [beq_eq_false_iff_ne]; omega
  have da : decide (0 < x) = true := by simp; omega
  have db : decide (0 < y) = true := by simp; omega
  go_enter Try.func49, Try.ntmps49
  go_wp2
  all_goals
    go_ret2
    exact ⟨rfl, rfl⟩

theorem rmul_nn_no (x y : Int) (w : World) (hx : 1 ≤ x) (hx2 : x ≤ 9223372036854775807) (hy : 1 ≤ y) (hy2 : y ≤ 9223372036854775807) (hq : 9223372036854775807 / y < x) :
    Calls Try.prog 49 #[.int .i64 (-x), .int .i64 (-y)] w fun e w' => e = .returned (.tuple #[.int .i64 0, .bool false]) ∧ w = w' := by
  have ea0 : ((-x) == 0) = false := by simp; omega
  have eb0 : ((-y) == 0) = false := by simp; omega
  have eam : ((-x) == -9223372036854775808) = false := by rw [beq_eq_false_iff_ne]; omega
  have ebm : ((-y) == -9223372036854775808) = false := by rw [beq_eq_false_iff_ne]; omega
  have da : decide (0 < x) = true := by simp; omega
  have db : decide (0 < y) = true := by simp; omega
  go_enter Try.func49, Try.ntmps49
  go_wp2
  all_goals
    go_ret2
    exact ⟨rfl, rfl⟩

end Go.Proofs.Ytpbbdnicafifpaa

/-! ## Mulc -/
namespace Go.Proofs.Ytpbbdnicafifpaa
open Go.RowKit

theorem le_quo (x y m : Int) (hy : 1 ≤ y) : x ≤ m / y ↔ x * y ≤ m := Int.le_ediv_iff_mul_le (by omega)

theorem prod_pos (x y : Int) (hx : 1 ≤ x) (hy : 1 ≤ y) : 1 ≤ x * y := by
  have := Int.mul_pos (a := x) (b := y) (by omega) (by omega)
  omega

theorem even_of (x y : Int) (hx : 1 ≤ x) (hy : 1 ≤ y) (hy2 : y ≤ 9223372036854775807) (h : x * y = 9223372036854775808) : x % 2 = 0 := by
  rcases Int.emod_two_eq x with h0 | h1
  · exact h0
  · exfalso
    obtain ⟨m, rfl⟩ := Int.eq_ofNat_of_zero_le (show 0 ≤ x by omega)
    obtain ⟨n, rfl⟩ := Int.eq_ofNat_of_zero_le (show 0 ≤ y by omega)
    have hN : m * n = 2 ^ 63 := by
      have : ((m * n : Nat) : Int) = ((2 ^ 63 : Nat) : Int) := by rw [Int.natCast_mul, h]; rfl
      exact_mod_cast this
    have hd : m ∣ 2 ^ 63 := ⟨n, hN.symm⟩
    have hg : Nat.gcd m 2 = 1 := by
      rw [Nat.gcd_comm, Nat.gcd_rec]
      have : m % 2 = 1 := by omega
      rw [this]; rfl
    have hc : Nat.Coprime m (2 ^ 63) := Nat.Coprime.pow_right 63 hg
    have h1' : m = 1 := Nat.Coprime.eq_one_of_dvd hc hd
    subst h1'
    omega

theorem half_mul (x y : Int) (h : x % 2 = 0) : x * y = 2 * (x / 2 * y) := by
  have : x = 2 * (x / 2) := by omega
  conv => lhs; rw [this]
  rw [Int.mul_assoc]

theorem chain_no (x y : Int) (hx : 1 ≤ x) (hy : 1 ≤ y) (hp : x * y ≠ 9223372036854775808) :
    (x % 2 == 0) = false ∨ ((x % 2 == 0) = true ∧ decide (x / 2 ≤ 9223372036854775807 / y) = false) ∨ ((x % 2 == 0) = true ∧ decide (x / 2 ≤ 9223372036854775807 / y) = true ∧ (wrap64 (x / 2 * y) == 4611686018427387904) = false) := by
  by_cases he : x % 2 = 0
  · by_cases hq : x / 2 ≤ 9223372036854775807 / y
    · refine .inr (.inr ⟨by simpa using he, by simpa using hq, ?_⟩)
      rw [le_quo _ _ _ hy] at hq
      have h2 := half_mul x y he
      have h3 : 0 ≤ x / 2 * y := Int.mul_nonneg (by omega) (by omega)
      rw [wrap_id _ (by unfold I64; omega), beq_eq_false_iff_ne]
      omega
    · exact .inr (.inl ⟨by simpa using he, by simpa using hq⟩)
  · exact .inl (by simpa using he)

theorem rmul_ok (a b : Int) (w : World) (ha : I64 a) (hb : I64 b) (hs : I64 (a * b)) :
    Calls Try.prog 49 #[.int .i64 a, .int .i64 b] w fun e w' => e = .returned (.tuple #[.int .i64 (a * b), .bool true]) ∧ w = w' := by
  by_cases h0 : a = 0 ∨ b = 0
  · have hz : a * b = 0 := by rcases h0 with rfl | rfl <;> simp
    rw [hz]
    exact rmul_zero a b w h0
  by_cases hl : a = -9223372036854775808 ∨ b = -9223372036854775808
  · have h1 := rmul_least a b w (by omega) (by omega) hl
    have h2 : a = 1 ∨ b = 1 := by
      rcases hl with rfl | rfl
      · right; unfold I64 at hs; omega
      · left; unfold I64 at hs; omega
    have h3 : a * b = -9223372036854775808 := by
      rcases h2 with rfl | rfl <;> rcases hl with h | h <;> omega
    rw [if_pos h2] at h1
    rw [h3]
    exact h1
  unfold I64 at ha hb hs
  by_cases ha0 : a < 0 <;> by_cases hb0 : b < 0
  · obtain ⟨x, rfl⟩ : ∃ x, a = -x := ⟨-a, by omega⟩
    obtain ⟨y, rfl⟩ : ∃ y, b = -y := ⟨-b, by omega⟩
    have e : -x * -y = x * y := Int.neg_mul_neg x y
    rw [e] at hs ⊢
    exact rmul_nn_ok x y w (by omega) (by omega) (by omega) (by omega) ((le_quo _ _ _ (by omega)).2 hs.2) (prod_pos _ _ (by omega) (by omega)) hs.2
  · obtain ⟨x, rfl⟩ : ∃ x, a = -x := ⟨-a, by omega⟩
    have e : -x * b = -(x * b) := Int.neg_mul x b
    rw [e] at hs ⊢
    have hp := prod_pos x b (by omega) (by omega)
    by_cases hm : x * b ≤ 9223372036854775807
    · exact rmul_np_ok x b w (by omega) (by omega) (by omega) (by omega) ((le_quo _ _ _ (by omega)).2 hm) hp hm
    · have hE : x * b = 9223372036854775808 := by omega
      have he := even_of x b (by omega) (by omega) (by omega) hE
      have h2 := half_mul x b he
      rw [hE]
      refine rmul_np_least x b w (by omega) (by omega) (by omega) (by omega) ?_ (by simpa using he) ((le_quo _ _ _ (by omega)).2 (by omega)) (by omega) (by omega) (by rw [beq_iff_eq]; omega)
      have := (le_quo x b 9223372036854775807 (by omega)); omega
  · obtain ⟨y, rfl⟩ : ∃ y, b = -y := ⟨-b, by omega⟩
    have e : a * -y = -(a * y) := Int.mul_neg a y
    rw [e] at hs ⊢
    have hp := prod_pos a y (by omega) (by omega)
    by_cases hm : a * y ≤ 9223372036854775807
    · exact rmul_pn_ok a y w (by omega) (by omega) (by omega) (by omega) ((le_quo _ _ _ (by omega)).2 hm) hp hm
    · have hE : a * y = 9223372036854775808 := by omega
      have he := even_of a y (by omega) (by omega) (by omega) hE
      have h2 := half_mul a y he
      rw [hE]
      refine rmul_pn_least a y w (by omega) (by omega) (by omega) (by omega) ?_ (by simpa using he) ((le_quo _ _ _ (by omega)).2 (by omega)) (by omega) (by omega) (by rw [beq_iff_eq]; omega)
      have := (le_quo a y 9223372036854775807 (by omega)); omega
  · exact rmul_pp_ok a b w (by omega) (by omega) (by omega) (by omega) ((le_quo _ _ _ (by omega)).2 hs.2) (prod_pos _ _ (by omega) (by omega)) hs.2

theorem rmul_no (a b : Int) (w : World) (ha : I64 a) (hb : I64 b) (hs : ¬ I64 (a * b)) :
    Calls Try.prog 49 #[.int .i64 a, .int .i64 b] w fun e w' => e = .returned (.tuple #[.int .i64 0, .bool false]) ∧ w = w' := by
  have h0a : a ≠ 0 := by rintro rfl; simp [I64] at hs
  have h0b : b ≠ 0 := by rintro rfl; simp [I64] at hs
  by_cases hl : a = -9223372036854775808 ∨ b = -9223372036854775808
  · have h1 := rmul_least a b w h0a h0b hl
    have h2 : ¬ (a = 1 ∨ b = 1) := by
      rintro (rfl | rfl)
      · rw [Int.one_mul] at hs; exact hs hb
      · rw [Int.mul_one] at hs; exact hs ha
    rw [if_neg h2] at h1
    exact h1
  unfold I64 at ha hb hs
  by_cases ha0 : a < 0 <;> by_cases hb0 : b < 0
  · obtain ⟨x, rfl⟩ : ∃ x, a = -x := ⟨-a, by omega⟩
    obtain ⟨y, rfl⟩ : ∃ y, b = -y := ⟨-b, by omega⟩
    have e : -x * -y = x * y := Int.neg_mul_neg x y
    rw [e] at hs
    have hp := prod_pos x y (by omega) (by omega)
    have hq := le_quo x y 9223372036854775807 (by omega)
    exact rmul_nn_no x y w (by omega) (by omega) (by omega) (by omega) (by omega)
  · obtain ⟨x, rfl⟩ : ∃ x, a = -x := ⟨-a, by omega⟩
    have e : -x * b = -(x * b) := Int.neg_mul x b
    rw [e] at hs
    have hp := prod_pos x b (by omega) (by omega)
    have hq := le_quo x b 9223372036854775807 (by omega)
    exact rmul_np_no x b w (by omega) (by omega) (by omega) (by omega) (by omega) (chain_no x b (by omega) (by omega) (by omega)) (chain_no b x (by omega) (by omega) (by rw [Int.mul_comm]; omega))
  · obtain ⟨y, rfl⟩ : ∃ y, b = -y := ⟨-b, by omega⟩
    have e : a * -y = -(a * y) := Int.mul_neg a y
    rw [e] at hs
    have hp := prod_pos a y (by omega) (by omega)
    have hq := le_quo a y 9223372036854775807 (by omega)
    exact rmul_pn_no a y w (by omega) (by omega) (by omega) (by omega) (by omega) (chain_no a y (by omega) (by omega) (by omega)) (chain_no y a (by omega) (by omega) (by rw [Int.mul_comm]; omega))
  · have hp := prod_pos a b (by omega) (by omega)
    have hq := le_quo a b 9223372036854775807 (by omega)
    exact rmul_pp_no a b w (by omega) (by omega) (by omega) (by omega) (by omega)

end Go.Proofs.Ytpbbdnicafifpaa

/-! ## Dot1 -/
namespace Go.Proofs.Ytpbbdnicafifpaa
open Go.RowKit
set_option linter.unusedVariables false

instance (a : Int) : Decidable (I64 a) := by unfold I64; exact inferInstance

/-- the sum of the products from s on; none: something on the way is no int -/
def dots : Int → List Int → List Int → Option Int
  | s, x :: xs, y :: ys => if I64 (x * y) then if I64 (s + x * y) then dots (s + x * y) xs ys else none else none
  | s, _, _ => some s

def dotV : Option Int → Value
  | some s => .tuple #[.int .i64 s, .bool true]
  | none => .tuple #[.int .i64 0, .bool false]

def Ints (zs : List Int) : Prop := ∀ x ∈ zs, I64 x

theorem Ints.get {zs : List Int} (h : Ints zs) (k : Nat) (hk : k < zs.length) : I64 (zs.getD k 0) := by
  have : zs.getD k 0 = zs[k] := by simp [hk]
  rw [this]; exact h _ (List.getElem_mem hk)

theorem idrop_at (zs : List Int) (k : Nat) (hk : k < zs.length) : zs.drop k = zs.getD k 0 :: zs.drop (k + 1) := by
  rw [List.drop_eq_getElem_cons hk]; simp [hk]

theorem dots_at (s : Int) (xs ys : List Int) (k : Nat) (hx : k < xs.length) (hy : k < ys.length) :
    dots s (xs.drop k) (ys.drop k) = if I64 (xs.getD k 0 * ys.getD k 0) then if I64 (s + xs.getD k 0 * ys.getD k 0) then dots (s + xs.getD k 0 * ys.getD k 0) (xs.drop (k + 1)) (ys.drop (k + 1)) else none else none := by
  rw [idrop_at xs k hx, idrop_at ys k hy]; rfl

theorem dots_end (s : Int) (xs ys : List Int) (k : Nat) (h : xs.length ≤ k ∨ ys.length ≤ k) : dots s (xs.drop k) (ys.drop k) = some s := by
  rcases h with h | h
  · rw [List.drop_of_length_le h]; rfl
  · rw [List.drop_of_length_le h]; cases xs.drop k <;> rfl

theorem Reads.at_ {w : World} {a : Option Addr} {zs : List Int} (h : Reads w a zs) (k : Nat) (hk : k < zs.length) : ∃ b off, a = some ⟨b, off, none⟩ ∧ w.cell? ⟨b, off + k, none⟩ = some (.int .i64 (zs.getD k 0)) := by
  rcases h with rfl | ⟨b, off, ha, _, hc⟩
  · simp at hk
  · exact ⟨b, off, ha, hc k hk⟩

theorem Reads.drewN {w : World} {a : Option Addr} {zs : List Int} (h : Reads w a zs) (n : Nat) : Reads (w.drewN n) a zs := h

theorem quiet_left {P : Program} {f : FuncId} {args : Array Value} {w : World} {n : Nat} {v : Value}
    (h : Calls P f args (w.drewN n) fun e w' => e = .returned v ∧ w.drewN n = w') : Calls P f args (w.drewN n) fun e w'' => e = .returned v ∧ ∃ m, w'' = w.drewN m :=
  h.mono fun _ _ h => ⟨h.1, n, h.2.symm⟩

set_option maxHeartbeats 800000 in
theorem dot_any (a b : Option Addr) (ca cb : Nat) (xs ys : List Int) (w : World) (ha : Reads w a xs) (hb : Reads w b ys) (hxs : Ints xs) (hys : Ints ys) (hlx : xs.length ≤ 1000000) (hly : ys.length ≤ 1000000) :
    Calls Try.prog 48 #[.slice a xs.length ca, .slice b ys.length cb] w fun e w' => e = .returned (dotV (dots 0 xs ys)) ∧ ∃ n, w' = w.drewN n := by
  have Ha := Lib.hid ha
  have Hb := Lib.hid hb
  have Hx := Lib.hid hxs
  have Hy := Lib.hid hys
  clear ha hb hxs hys
  obtain ⟨n, hn⟩ : ∃ n, n = xs.length := ⟨_, rfl⟩
  obtain ⟨m, hm⟩ : ∃ m, m = ys.length := ⟨_, rfl⟩
  rw [← hn] at hlx ⊢
  rw [← hm] at hly ⊢
  have Hn := Lib.hid hn
  have Hm := Lib.hid hm
  clear hn hm
  go_enter Try.func48, Try.ntmps48
  go_wp2
  all_goals
    go_loopw [6, 15] (fun t i wr => ∃ k : Nat, ∃ s : Int, k ≤ n ∧ k ≤ m ∧ i = .int .i64 k ∧ t = .int .i64 s ∧ -9223372036854775808 ≤ s ∧ s ≤ 9223372036854775807 ∧ Hid (dots s (xs.drop k) (ys.drop k) = dots 0 xs ys) ∧ Hid (∃ j, wr = w.drewN j))
      (fun _ i _ => n - (intOf i).toNat)
    case atStart => exact ⟨0, 0, Nat.zero_le _, Nat.zero_le _, rfl, rfl, by omega, by omega, Lib.hid rfl, Lib.hid ⟨0, rfl⟩⟩
    case round =>
      obtain ⟨k, s, hkn, hkm, rfl, rfl, hs1, hs2, hd, hw⟩ := hrel
      have hra : Reads wr a xs := by obtain ⟨j, hj⟩ := hw.out; rw [hj]; exact Ha.out.drewN j
      have hrb : Reads wr b ys := by obtain ⟨j, hj⟩ := hw.out; rw [hj]; exact Hb.out.drewN j
      by_cases hlt : k < n ∧ k < m
      · obtain ⟨hltn, hltm⟩ := hlt
        have hkx : k < xs.length := by have := Hn.out; omega
        have hky : k < ys.length := by have := Hm.out; omega
        obtain ⟨b1, o1, rfl, hc1⟩ := hra.at_ k hkx
        obtain ⟨b2, o2, rfl, hc2⟩ := hrb.at_ k hky
        have hX := Hx.out.get k hkx
        have hY := Hy.out.get k hky
        have hst := dots_at s xs ys k hkx hky
        rw [hd.out] at hst
        obtain ⟨x, hx⟩ : ∃ x, x = xs.getD k 0 := ⟨_, rfl⟩
        obtain ⟨y, hy⟩ : ∃ y, y = ys.getD k 0 := ⟨_, rfl⟩
        rw [← hx] at hc1 hX hst
        rw [← hy] at hc2 hY hst
        clear hx hy hkx hky hd hra hrb
        have HX := Lib.hid hX
        have HY := Lib.hid hY
        have HS : Hid (I64 s) := Lib.hid ⟨hs1, hs2⟩
        clear hX hY
        by_cases hp : I64 (x * y)
        · rw [if_pos hp] at hst
          by_cases hq : I64 (s + x * y)
          · rw [if_pos hq] at hst
            have HST := Lib.hid hst
            have HP := Lib.hid hp
            have HQ := Lib.hid hq
            clear hst hp hq
            go_wp2
            go_quiet ((go_at_call 70; exact quiet_left (mul_ok x y _ HX.out HY.out HP.out)))
            go_wp2_with fail
            refine (add_ok _ _ _ HS.out HP.out HQ.out).mono ?_
            rintro e w' ⟨rfl, rfl⟩
            go_wp2
            go_roundw
            case rel => exact ⟨k + 1, s + x * y, by omega, by omega, by go_num, rfl, HQ.out.1, HQ.out.2, Lib.hid HST.out.symm, Lib.hid (by obtain ⟨j, hj⟩ := hw.out; exact drewN_of1 w _ _ j _ hj rfl)⟩
            case measure => simp [intOf]; omega
          · rw [if_neg hq] at hst
            have HST := Lib.hid hst
            have HP := Lib.hid hp
            have HQ := Lib.hid hq
            clear hst hp hq
            go_wp2
            go_quiet ((go_at_call 70; exact quiet_left (mul_ok x y _ HX.out HY.out HP.out)))
            go_wp2_with fail
            refine (add_no _ _ _ HS.out HP.out HQ.out).mono ?_
            rintro e w' ⟨rfl, rfl⟩
            go_wp2
            go_ret2
            rw [HST.out]
            exact ⟨rfl, by obtain ⟨j, hj⟩ := hw.out; exact drewN_of1 w _ _ j _ hj rfl⟩
        · rw [if_neg hp] at hst
          have HST := Lib.hid hst
          have HP := Lib.hid hp
          clear hst hp
          go_wp2
          go_quiet ((go_at_call 70; exact quiet_left (mul_no x y _ HX.out HY.out HP.out)))
          go_wp2
          go_ret2
          rw [HST.out]
          exact ⟨rfl, by obtain ⟨j, hj⟩ := hw.out; exact drewN_of1 w _ _ j _ hj rfl⟩
      · have hfin := dots_end s xs ys k (by have := Hn.out; have := Hm.out; omega)
        rw [hd.out] at hfin
        have HF := Lib.hid hfin
        clear hfin hd hra hrb
        go_wp2
        all_goals
          go_ret2
          rw [HF.out]
          exact ⟨rfl, hw.out⟩

set_option maxHeartbeats 800000 in
theorem rdot_any (a b : Option Addr) (ca cb : Nat) (xs ys : List Int) (w : World) (ha : Reads w a xs) (hb : Reads w b ys) (hxs : Ints xs) (hys : Ints ys) (hlx : xs.length ≤ 1000000) (hly : ys.length ≤ 1000000) :
    Calls Try.prog 24 #[.slice a xs.length ca, .slice b ys.length cb] w fun e w' => e = .returned (dotV (dots 0 xs ys)) ∧ ∃ n, w' = w.drewN n := by
  have Ha := Lib.hid ha
  have Hb := Lib.hid hb
  have Hx := Lib.hid hxs
  have Hy := Lib.hid hys
  clear ha hb hxs hys
  obtain ⟨n, hn⟩ : ∃ n, n = xs.length := ⟨_, rfl⟩
  obtain ⟨m, hm⟩ : ∃ m, m = ys.length := ⟨_, rfl⟩
  rw [← hn] at hlx ⊢
  rw [← hm] at hly ⊢
  have Hn := Lib.hid hn
  have Hm := Lib.hid hm
  clear hn hm
  go_enter Try.func24, Try.ntmps24
  go_wp2
  all_goals
    go_loopw [6, 7] (fun t i wr => ∃ k : Nat, ∃ s : Int, k ≤ n ∧ k ≤ m ∧ i = .int .i64 k ∧ t = .int .i64 s ∧ -9223372036854775808 ≤ s ∧ s ≤ 9223372036854775807 ∧ Hid (dots s (xs.drop k) (ys.drop k) = dots 0 xs ys) ∧ Hid (∃ j, wr = w.drewN j))
      (fun _ i _ => n - (intOf i).toNat)
    case atStart => exact ⟨0, 0, Nat.zero_le _, Nat.zero_le _, rfl, rfl, by omega, by omega, Lib.hid rfl, Lib.hid ⟨0, rfl⟩⟩
    case round =>
      obtain ⟨k, s, hkn, hkm, rfl, rfl, hs1, hs2, hd, hw⟩ := hrel
      have hra : Reads wr a xs := by obtain ⟨j, hj⟩ := hw.out; rw [hj]; exact Ha.out.drewN j
      have hrb : Reads wr b ys := by obtain ⟨j, hj⟩ := hw.out; rw [hj]; exact Hb.out.drewN j
      by_cases hlt : k < n ∧ k < m
      · obtain ⟨hltn, hltm⟩ := hlt
        have hkx : k < xs.length := by have := Hn.out; omega
        have hky : k < ys.length := by have := Hm.out; omega
        obtain ⟨b1, o1, rfl, hc1⟩ := hra.at_ k hkx
        obtain ⟨b2, o2, rfl, hc2⟩ := hrb.at_ k hky
        have hX := Hx.out.get k hkx
        have hY := Hy.out.get k hky
        have hst := dots_at s xs ys k hkx hky
        rw [hd.out] at hst
        obtain ⟨x, hx⟩ : ∃ x, x = xs.getD k 0 := ⟨_, rfl⟩
        obtain ⟨y, hy⟩ : ∃ y, y = ys.getD k 0 := ⟨_, rfl⟩
        rw [← hx] at hc1 hX hst
        rw [← hy] at hc2 hY hst
        clear hx hy hkx hky hd hra hrb
        have HX := Lib.hid hX
        have HY := Lib.hid hY
        have HS : Hid (I64 s) := Lib.hid ⟨hs1, hs2⟩
        clear hX hY
        by_cases hp : I64 (x * y)
        · rw [if_pos hp] at hst
          by_cases hq : I64 (s + x * y)
          · rw [if_pos hq] at hst
            have HST := Lib.hid hst
            have HP := Lib.hid hp
            have HQ := Lib.hid hq
            clear hst hp hq
            go_wp2
            go_quiet ((go_at_call 49; exact quiet_left (rmul_ok x y _ HX.out HY.out HP.out)))
            go_wp2_with fail
            refine (radd_ok _ _ _ HS.out HP.out HQ.out).mono ?_
            rintro e w' ⟨rfl, rfl⟩
            go_wp2
            go_roundw
            case rel => exact ⟨k + 1, s + x * y, by omega, by omega, by go_num, rfl, HQ.out.1, HQ.out.2, Lib.hid HST.out.symm, Lib.hid (by obtain ⟨j, hj⟩ := hw.out; exact drewN_of1 w _ _ j _ hj rfl)⟩
            case measure => simp [intOf]; omega
          · rw [if_neg hq] at hst
            have HST := Lib.hid hst
            have HP := Lib.hid hp
            have HQ := Lib.hid hq
            clear hst hp hq
            go_wp2
            go_quiet ((go_at_call 49; exact quiet_left (rmul_ok x y _ HX.out HY.out HP.out)))
            go_wp2_with fail
            refine (radd_no _ _ _ HS.out HP.out HQ.out).mono ?_
            rintro e w' ⟨rfl, rfl⟩
            go_wp2
            go_ret2
            rw [HST.out]
            exact ⟨rfl, by obtain ⟨j, hj⟩ := hw.out; exact drewN_of1 w _ _ j _ hj rfl⟩
        · rw [if_neg hp] at hst
          have HST := Lib.hid hst
          have HP := Lib.hid hp
          clear hst hp
          go_wp2
          go_quiet ((go_at_call 49; exact quiet_left (rmul_no x y _ HX.out HY.out HP.out)))
          go_wp2
          go_ret2
          rw [HST.out]
          exact ⟨rfl, by obtain ⟨j, hj⟩ := hw.out; exact drewN_of1 w _ _ j _ hj rfl⟩
      · have hfin := dots_end s xs ys k (by have := Hn.out; have := Hm.out; omega)
        rw [hd.out] at hfin
        have HF := Lib.hid hfin
        clear hfin hd hra hrb
        go_wp2
        all_goals
          go_ret2
          rw [HF.out]
          exact ⟨rfl, hw.out⟩

end Go.Proofs.Ytpbbdnicafifpaa
