/-
  SameInts of the document's own answers is true for two slices that hold the same list; two rows that a call builds by append, side by side, stay apart.
  Conditions: none beyond each theorem's own.
-/
import Derived.Test.YtgombejncjcjhaaIn
import Derived.Test.YtgombejncjcjhaaNormMath
import Derived.Maps.AppendAt
import Derived.Deep.AppendLies
namespace Go.Proofs.Ytgombejncjcjhaa
open Go.RowKit
set_option linter.unusedVariables false

set_option maxHeartbeats 400000 in
theorem same_any (a b : Option Addr) (ca cb : Nat) (xs : List Int) (w : World) (ha : Reads w a xs) (hb : Reads w b xs) (hlx : xs.length ≤ 1000000) :
    Calls Try.prog 26 #[.slice a xs.length ca, .slice b xs.length cb] w fun e w' => e = .returned (.bool true) ∧ ∃ n, w' = w.drewN n := by
  have Ha := Lib.hid ha
  have Hb := Lib.hid hb
  clear ha hb
  obtain ⟨n, hn⟩ : ∃ n, n = xs.length := ⟨_, rfl⟩
  rw [← hn] at hlx ⊢
  have Hn := Lib.hid hn
  clear hn
  go_enter Try.func26, Try.ntmps26
  go_wp2
  go_loopw [5] (fun i wr => ∃ k : Nat, k ≤ n ∧ i = .int .i64 k ∧ Hid (∃ j, wr = w.drewN j))
    (fun i _ => n - (intOf i).toNat)
  case atStart => exact ⟨0, Nat.zero_le _, rfl, Lib.hid ⟨0, rfl⟩⟩
  case round =>
    obtain ⟨k, hk, rfl, hw⟩ := hrel
    have hra : Reads wr a xs := by obtain ⟨j, hj⟩ := hw.out; rw [hj]; exact Ha.out.drewN j
    have hrb : Reads wr b xs := by obtain ⟨j, hj⟩ := hw.out; rw [hj]; exact Hb.out.drewN j
    by_cases hlt : k < n
    · have hkx : k < xs.length := by have := Hn.out; omega
      obtain ⟨b1, o1, rfl, hc1⟩ := hra.at_ k hkx
      obtain ⟨b2, o2, rfl, hc2⟩ := hrb.at_ k hkx
      generalize xs.getD k 0 = x at hc1 hc2
      clear hkx hra hrb
      go_wp2
      go_quiet (fail)
      go_wp2
      go_roundw
      case rel => exact ⟨k + 1, by omega, by go_num, Lib.hid (by obtain ⟨j, hj⟩ := hw.out; exact drewN_of w _ _ j _ hj rfl)⟩
      case measure => simp [intOf]; omega
    · clear hra hrb
      go_wp2
      go_ret
      exact ⟨rfl, hw.out⟩

theorem Reads.place {w : World} {a : Option Addr} {zs : List Int} (h : Reads w a zs) (k : Nat) (hk : k < zs.length) : ∃ b off, a = some ⟨b, off, none⟩ ∧ b < w.heap.size ∧ w.cell? ⟨b, off + k, none⟩ = some (.int .i64 (zs.getD k 0)) := by
  rcases h with rfl | ⟨b, off, ha, hb, hc⟩
  · simp at hk
  · exact ⟨b, off, ha, hb, hc k hk⟩

/-- two slices that the call itself builds: v holds xs, u holds ys, in rows of their own -/
structure Own2 (B : Nat) (w : World) (v u : Value) (xs ys : List Int) : Prop where
  o1 : w.ownsRow B 3 1 v xs.length (xs.map (Value.int .i64))
  o2 : w.ownsRow B 3 1 u ys.length (ys.map (Value.int .i64))
  ne : ∀ k, v.ownBlock = some k → u.ownBlock ≠ some k

theorem Own2.start (B : Nat) (w : World) : Own2 B w (.slice none 0 0) (.slice none 0 0) [] [] :=
  ⟨World.ownsRow_nil _ _ _ _, World.ownsRow_nil _ _ _ _, fun k h => by simp [Value.ownBlock] at h⟩

theorem Own2.swap {B : Nat} {w : World} {v u : Value} {xs ys : List Int} (h : Own2 B w v u xs ys) : Own2 B w u v ys xs :=
  ⟨h.o2, h.o1, fun k h1 h2 => h.ne k h2 h1⟩

theorem Own2.step {B : Nat} {w w1 : World} {v u v' : Value} {xs ys : List Int} {x : Int} (h : Own2 B w v u xs ys) (o : Obj)
    (h1 : w1.ownsRow B 3 1 v' (xs.length + 1) (xs.map (Value.int .i64) ++ [Value.int .i64 x])) (hg : (w.alloc o).grownBy w1 v.ownBlock) (hat : v'.ownBlock = v.ownBlock ∨ v'.ownBlock = some (w.alloc o).heap.size) :
    Own2 B w1 v' u (xs ++ [x]) ys := by
  refine ⟨by simpa using h1, (h.o2.alloc o).kept hg ?_, fun k hk hu => ?_⟩
  · cases hv : u.ownBlock with
    | none => exact .inl rfl
    | some k => right; intro e; exact h.ne k e.symm hv
  · rcases hat with e | e
    · rw [e] at hk; exact h.ne k hk hu
    · rw [e] at hk
      have := (h.o2.lt k hu).2
      simp at hk
      omega

theorem Own2.below {B : Nat} {w0 w w1 : World} {v u : Value} {xs ys : List Int} (h : Own2 B w v u xs ys) (o : Obj) (hb : Below B w0 w) (hB : B ≤ w.heap.size) (hg : (w.alloc o).grownBy w1 v.ownBlock) : Below B w0 w1 :=
  (hb.alloc hB o).grown hg (by simp; omega) (fun k hk => (h.o1.lt k hk).1)

theorem own_reads {B : Nat} {w : World} {v : Value} {xs : List Int} (h : w.ownsRow B 3 1 v xs.length (xs.map (Value.int .i64))) : ∃ a cap, v = .slice a xs.length cap ∧ Reads w a xs := by
  rcases h.2 with ⟨rfl, h0⟩ | ⟨g, cap, cur, rfl, _, hg, _, _, hs, ht⟩
  · exact ⟨none, 0, by rw [h0], .inl (List.eq_nil_of_length_eq_zero h0)⟩
  · refine ⟨_, cap, rfl, ?_⟩
    by_cases h0 : xs = []
    · exact .inl h0
    · refine .inr ⟨g, 0, rfl, (Array.getElem?_eq_some_iff.1 hg).1, fun i hi => ?_⟩
      have hc := h.cells (g := g) (by simp [Value.ownBlock]) i (.int .i64 (xs.getD i 0)) (by simp [hi])
      rw [show (⟨g, 0, none⟩ : Addr).add i = ⟨g, 0 + i, none⟩ by simp [Addr.add]; omega] at hc
      exact hc

end Go.Proofs.Ytgombejncjcjhaa
