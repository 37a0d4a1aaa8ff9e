/-
  What Top and Pop of tray's Heap come to: the least key, which Pop takes away; a zero key and false where there is none.
  Conditions: at most 1000 keys.
-/
import Derived.Test.YthpcaamfcmjnmaaPush
namespace Go.Proofs.Ythpcaamfcmjnmaa
open Go.RowKit

/-- no key -/
abbrev zeroKey : Value := .agg #[.int .i64 0, .int .i64 0, .int .i64 0, .int .i64 0]

theorem top_empty (B g : Nat) (v : Value) (w : World) (h : HeapAt B w g v []) :
    Calls Try.prog 12 #[.pointer (some ⟨g, 0, none⟩)] w fun e w' => e = .returned (.tuple #[zeroKey, .bool false]) ∧ Below w.heap.size w w' := by
  have hL := Lib.hid (fun w (h : HeapAt B w g v []) => len_any B g v [] w h)
  have hb : Below w.heap.size w (w.alloc (.cells #[.int .i64 0, .int .i64 0, .int .i64 0, .int .i64 0] 30)) := (Below.refl _ _).alloc (Nat.le_refl _) _
  have H := Lib.hid (h.below hb)
  clear h
  go_enter Try.func12, Try.ntmps12
  go_wp2_with fail
  refine (hL.out _ H.out).mono ?_
  rintro e w' ⟨rfl, rfl⟩
  simp only [List.length_nil]
  go_wp2
  refine bodyPost_ret (v := .tuple #[zeroKey, .bool false]) (by simp [results, Try.results12, go_sem]) rfl ⟨rfl, ?_⟩
  exact (Below.refl _ _).alloc (Nat.le_refl _) _

theorem top_nil (w : World) :
    Calls Try.prog 12 #[.pointer none] w fun e w' => e = .returned (.tuple #[zeroKey, .bool false]) ∧ Below w.heap.size w w' := by
  go_enter Try.func12, Try.ntmps12
  go_wp2_with fail
  refine (len_nil _).mono ?_
  rintro e w' ⟨rfl, rfl⟩
  go_wp2
  refine bodyPost_ret (v := .tuple #[zeroKey, .bool false]) (by simp [results, Try.results12, go_sem]) rfl ⟨rfl, ?_⟩
  exact (Below.refl _ _).alloc (Nat.le_refl _) _

theorem top_some (B g : Nat) (v : Value) (ks : List Key4) (w : World) (h : HeapAt B w g v ks) (hp : 0 < ks.length) (x1 x2 x3 x4 : Int) (hx : at4 ks 0 = (x1, x2, x3, x4)) :
    Calls Try.prog 12 #[.pointer (some ⟨g, 0, none⟩)] w fun e w' => e = .returned (.tuple #[.agg #[.int .i64 x1, .int .i64 x2, .int .i64 x3, .int .i64 x4], .bool true]) ∧ Below w.heap.size w w' := by
  have hL := Lib.hid (fun w (h : HeapAt B w g v ks) => len_any B g v ks w h)
  have hb : Below w.heap.size w (w.alloc (.cells #[.int .i64 0, .int .i64 0, .int .i64 0, .int .i64 0] 30)) := (Below.refl _ _).alloc (Nat.le_refl _) _
  have h1 := h.below hb
  have H := Lib.hid h1
  obtain ⟨r, cap, hv, hr, hgr, _⟩ := h.row hp
  have hgl := h.lt
  have hrl := hr.lt
  have hc := h.cell
  rw [hv] at hc
  have Hv := Lib.hid hv
  obtain ⟨c1, c2, c3, c4⟩ := hr.cell4 0 hp _ hx
  simp only [Nat.zero_mul, Nat.zero_add] at c1 c2 c3 c4
  clear h h1 hv hr hx
  have hlen : ((ks.length : Int) == 0) = false := by rw [beq_eq_false_iff_ne]; omega
  have hl0 : (0 : Int) < (ks.length : Int) := by omega
  go_enter Try.func12, Try.ntmps12
  go_wp2_with fail
  refine (hL.out _ H.out).mono ?_
  rintro e w' ⟨rfl, rfl⟩
  go_wp2
  refine bodyPost_ret (v := .tuple #[.agg #[.int .i64 x1, .int .i64 x2, .int .i64 x3, .int .i64 x4], .bool true]) (by simp [results, Try.results12, go_sem]) rfl ⟨rfl, ?_⟩
  exact (Below.refl _ _).alloc (Nat.le_refl _) _

set_option maxHeartbeats 2000000 in
theorem sink_empty (g : Nat) (a : Option Addr) (cap : Nat) (w : World) (hg : w.cell? ⟨g, 0, none⟩ = some (.slice a 0 cap)) (hgl : g < w.heap.size) :
    Calls Try.prog 24 #[.pointer (some ⟨g, 0, none⟩), .int .i64 0] w fun e w' => e = .returned (.tuple #[]) ∧ Below w.heap.size w w' := by
  have Hg := Lib.hid hg
  clear hg
  have CH := Lib.hid (fun w => children_any 0 1 2 w rfl rfl (by omega))
  go_enter Try.func24, Try.ntmps24
  go_wp2
  go_loopw [1] (fun t wr => t = .int .i64 0 ∧ w = wr) (fun _ _ => 0)
  case atStart => exact ⟨rfl, rfl⟩
  case round =>
    obtain ⟨rfl, rfl⟩ := hrel
    go_wp2_with fail
    refine (CH.out _).mono ?_
    rintro e wc ⟨rfl, hbc⟩
    have Hb := Lib.hid hbc
    clear hbc
    go_wp2
    go_loopw [4, 10] (fun L idx wr2 => ∃ m : Nat, m ≤ 2 ∧ idx = .int .i64 m ∧ L = .int .i64 0 ∧ Below w.heap.size w wr2) (fun _ idx _ => 2 - (intOf idx).toNat)
    case atStart => exact ⟨0, by omega, rfl, rfl, Hb.out⟩
    case round =>
      obtain ⟨m, hm, rfl, rfl, hb2⟩ := hrel
      have Hb2 := Lib.hid hb2
      have cg := cellB hb2 hgl Hg.out
      clear hb2
      match m, hm with
      | 0, _ =>
        have hidx := fun w => idx0 (.int .i64 1) (.int .i64 2) w
        go_wp2
        go_quiet (fail)
        go_wp2
        go_roundw
        case rel => exact ⟨1, by omega, rfl, rfl, below_drewN Hb2.out _⟩
        case measure => simp [intOf]
      | 1, _ =>
        have hidx := fun w => idx1 (.int .i64 1) (.int .i64 2) w
        go_wp2
        go_quiet (fail)
        go_wp2
        go_roundw
        case rel => exact ⟨2, by omega, rfl, rfl, below_drewN Hb2.out _⟩
        case measure => simp [intOf]
      | 2, _ =>
        go_wp2
        refine bodyPost_ret (results_none rfl _ _ _) rfl ?_
        exact ⟨rfl, Hb2.out⟩

end Go.Proofs.Ythpcaamfcmjnmaa
