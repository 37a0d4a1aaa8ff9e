/-
  What rise of tray's Heap comes to: a row that is a heap but for one key that may be too small for its place becomes a heap of the same keys; nothing else that was there changes.
  Conditions: the place is in the row; the row has at most 1000000 keys.
-/
import Derived.Test.YthpcaamfcmjnmaaHeapMem
import Derived.Deep.RegionHeld3
import Derived.BigRegion
namespace Go.Proofs.Ythpcaamfcmjnmaa
open Go.RowKit

theorem cellB {w w' : World} (h : Below w.heap.size w w') {b o : Nat} {v : Value} (hb : b < w.heap.size) (hc : w.cell? ⟨b, o, none⟩ = some v) : w'.cell? ⟨b, o, none⟩ = some v :=
  (h.cell (p := ⟨b, o, none⟩) hb).trans hc
theorem frozB {w w' : World} (h : Below w.heap.size w w') {b o : Nat} (hb : b < w.heap.size) (hc : w.frozen? ⟨b, o, none⟩ = false) : w'.frozen? ⟨b, o, none⟩ = false :=
  (h.frozen (p := ⟨b, o, none⟩) hb).trans hc

theorem undrew {w w' : World} (h : Below w.drew.heap.size w.drew w') : Below w.heap.size w w' := ⟨h.os, h.tape, h.output, h.size, h.block⟩

/-- what rise and sink leave -/
def Settled (r cap : Nat) (ks : List Key4) (w : World) (e : Ending) (w' : World) : Prop :=
  e = .returned (.tuple #[]) ∧ (∃ ks', ks'.Perm ks ∧ IsHeap ks' ∧ KeyRow w' r cap ks') ∧ Kept (fun k => k = r) w w'

theorem swap_world (w : World) (r i j : Nat) (ks : List Key4) (cap : Nat) (h : KeyRow w r cap ks) (hi : i < ks.length) (hj : j < ks.length) :
    KeyRow (put4 (put4 w r i (at4 ks j)) r j (at4 ks i)) r cap (swap4 ks i j) := by
  have h1 := h.put i (at4 ks j) hi
  exact h1.put j (at4 ks i) (by simpa using hj)

set_option maxHeartbeats 2000000 in
theorem rise_any (g r cap i : Nat) (ks : List Key4) (w : World) (hrow : KeyRow w r cap ks) (hg : w.cell? ⟨g, 0, none⟩ = some (.slice (some ⟨r, 0, none⟩) ks.length cap)) (hgl : g < w.heap.size) (hgr : g ≠ r)
    (hi : i < ks.length) (hup : UpAt ks i) (hn : ks.length ≤ 1000000) :
    Calls Try.prog 23 #[.pointer (some ⟨g, 0, none⟩), .int .i64 i] w (Settled r cap ks w) := by
  have Hrow := Lib.hid hrow
  have Hg := Lib.hid hg
  have Hup := Lib.hid hup
  clear hrow hg hup
  obtain ⟨n, hnn⟩ : ∃ n, n = ks.length := ⟨_, rfl⟩
  rw [← hnn] at hi hn Hg
  have Hn := Lib.hid hnn
  clear hnn
  go_enter Try.func23, Try.ntmps23
  go_wp2
  go_loopw [1] (fun t wr => ∃ j : Nat, ∃ k1 : List Key4, t = .int .i64 j ∧ j < n ∧ Hid (n = k1.length) ∧ k1.Perm ks ∧ UpAt k1 j ∧ KeyRow wr r cap k1 ∧ Kept (fun k => k = r) w wr) (fun t _ => (intOf t).toNat)
  case atStart => exact ⟨i, ks, rfl, hi, Hn, List.Perm.refl _, Hup.out, Hrow.out, Kept.refl _ _⟩
  case round =>
    obtain ⟨j, k1, rfl, hj, hn1, hp1, hu1, hr1, hk1⟩ := hrel
    have Hp1 := Lib.hid hp1
    have Hu1 := Lib.hid hu1
    have Hr1 := Lib.hid hr1
    have Hk1 := Lib.hid hk1
    clear hp1 hu1 hr1 hk1
    by_cases hj0 : 0 < j
    · obtain ⟨p, hp⟩ : ∃ p, p = (j - 1) / 2 := ⟨_, rfl⟩
      have hpj : p < j := by omega
      have hpi : ((j : Int) - 1) / 2 = (p : Int) := by omega
      have hjl : j < k1.length := by rw [← hn1.out]; exact hj
      have hpl : p < k1.length := by omega
      obtain ⟨x, hx⟩ : ∃ x, at4 k1 j = x := ⟨_, rfl⟩
      obtain ⟨y, hy⟩ : ∃ y, at4 k1 p = y := ⟨_, rfl⟩
      obtain ⟨c1, c2, c3, c4⟩ := Hr1.out.cell4 j hjl x hx
      obtain ⟨d1, d2, d3, d4⟩ := Hr1.out.cell4 p hpl y hy
      have cg := Hk1.out.cell hgl hgr Hg.out
      have hgl1 : g < wr.heap.size := Nat.lt_of_lt_of_le hgl Hk1.out.size
      have hrl1 : r < wr.heap.size := Hr1.out.lt
      have Hx := Lib.hid hx
      have Hy := Lib.hid hy
      have Hp := Lib.hid hp
      clear hx hy hp hjl hpl
      obtain ⟨x1, x2, x3, x4⟩ := x
      obtain ⟨y1, y2, y3, y4⟩ := y
      simp only at c1 c2 c3 c4 d1 d2 d3 d4
      have hjp : j ≠ p := by omega
      have i1 : (0 : Int) ≤ (p : Int) := by omega
      have i2 : (p : Int) < (n : Int) := by omega
      have i3 : (0 : Int) ≤ (j : Int) := by omega
      have i4 : (j : Int) < (n : Int) := by omega
      cases hlt : klt (x1, x2, x3, x4) (y1, y2, y3, y4) with
      | true =>
        have Hlt := Lib.hid hlt
        go_wp2
        go_region_held3 (fun w' => w'.cell? ⟨g, 0, none⟩ = some (.slice (some ⟨r, 0, none⟩) n cap) ∧ w'.cell? ⟨r, j * 4, none⟩ = some (.int .i64 x1) ∧ w'.cell? ⟨r, j * 4 + 1, none⟩ = some (.int .i64 x2) ∧ w'.cell? ⟨r, j * 4 + 2, none⟩ = some (.int .i64 x3) ∧ w'.cell? ⟨r, j * 4 + 3, none⟩ = some (.int .i64 x4)
           ∧ w'.cell? ⟨r, p * 4, none⟩ = some (.int .i64 y1) ∧ w'.cell? ⟨r, p * 4 + 1, none⟩ = some (.int .i64 y2) ∧ w'.cell? ⟨r, p * 4 + 2, none⟩ = some (.int .i64 y3) ∧ w'.cell? ⟨r, p * 4 + 3, none⟩ = some (.int .i64 y4))
          (first | exact kk | go_keep)
          (first | (go_at_call 28; ((with_reducible refine (less_any _ _ _ _ _ _ _ _ _).mono ?_); rintro e w' ⟨rfl, hbw⟩; have kk := And.intro (cellB hbw hgl1 cg) (And.intro (cellB hbw hrl1 c1) (And.intro (cellB hbw hrl1 c2) (And.intro (cellB hbw hrl1 c3) (And.intro (cellB hbw hrl1 c4) (And.intro (cellB hbw hrl1 d1) (And.intro (cellB hbw hrl1 d2) (And.intro (cellB hbw hrl1 d3) (cellB hbw hrl1 d4)))))))))))
        obtain ⟨kg, k1', k2', k3', k4', l1, l2, l3, l4⟩ := kk
        have hr2 : KeyRow w' r cap k1 := Hr1.out.below (undrew hbw)
        have Hr2 := Lib.hid hr2
        have Hk2 : Hid (Kept (fun k => k = r) w w') := Lib.hid (Hk1.out.trans (Kept.of_below (undrew hbw)))
        have f1 := hr2.frozen (j * 4)
        have f2 := hr2.frozen (j * 4 + 1)
        have f3 := hr2.frozen (j * 4 + 2)
        have f4 := hr2.frozen (j * 4 + 3)
        have f5 := hr2.frozen (p * 4)
        have f6 := hr2.frozen (p * 4 + 1)
        have f7 := hr2.frozen (p * 4 + 2)
        have f8 := hr2.frozen (p * 4 + 3)
        clear hbw cg c1 c2 c3 c4 d1 d2 d3 d4 hr2
        go_wp2
        go_region
        go_wp2
        go_roundw
        case rel =>
          have hjl : j < k1.length := by rw [← hn1.out]; exact hj
          have hpl : p < k1.length := by omega
          have hs := (swap_world w' r j p k1 cap Hr2.out hjl hpl).drew
          rw [Hx.out, Hy.out] at hs
          have hk := ((Hk2.out.put (r := r) rfl j (y1, y2, y3, y4)).put (r := r) rfl p (x1, x2, x3, x4)).drew
          have hu := Hu1.out.step hjl hj0 (by rw [← Hp.out, Hx.out, Hy.out]; exact Hlt.out)
          rw [← Hp.out] at hu
          exact ⟨p, swap4 k1 j p, rfl, by omega, Lib.hid (by rw [swap4_len]; exact hn1.out), (swap4_perm k1 j p hjl hpl).trans Hp1.out, hu, hs, hk⟩
        case measure => simp [intOf]; omega
      | false =>
        have Hlt := Lib.hid hlt
        go_wp2
        go_region_held3 (fun w' => w'.cell? ⟨g, 0, none⟩ = some (.slice (some ⟨r, 0, none⟩) n cap) ∧ w'.cell? ⟨r, j * 4, none⟩ = some (.int .i64 x1) ∧ w'.cell? ⟨r, j * 4 + 1, none⟩ = some (.int .i64 x2) ∧ w'.cell? ⟨r, j * 4 + 2, none⟩ = some (.int .i64 x3) ∧ w'.cell? ⟨r, j * 4 + 3, none⟩ = some (.int .i64 x4)
           ∧ w'.cell? ⟨r, p * 4, none⟩ = some (.int .i64 y1) ∧ w'.cell? ⟨r, p * 4 + 1, none⟩ = some (.int .i64 y2) ∧ w'.cell? ⟨r, p * 4 + 2, none⟩ = some (.int .i64 y3) ∧ w'.cell? ⟨r, p * 4 + 3, none⟩ = some (.int .i64 y4))
          (first | exact kk | go_keep)
          (first | (go_at_call 28; ((with_reducible refine (less_any _ _ _ _ _ _ _ _ _).mono ?_); rintro e w' ⟨rfl, hbw⟩; have kk := And.intro (cellB hbw hgl1 cg) (And.intro (cellB hbw hrl1 c1) (And.intro (cellB hbw hrl1 c2) (And.intro (cellB hbw hrl1 c3) (And.intro (cellB hbw hrl1 c4) (And.intro (cellB hbw hrl1 d1) (And.intro (cellB hbw hrl1 d2) (And.intro (cellB hbw hrl1 d3) (cellB hbw hrl1 d4)))))))))))
        have Hr2 := Lib.hid (Hr1.out.below (undrew hbw))
        have Hk2 : Hid (Kept (fun k => k = r) w w') := Lib.hid (Hk1.out.trans (Kept.of_below (undrew hbw)))
        clear hbw kk cg c1 c2 c3 c4 d1 d2 d3 d4
        go_wp2
        refine bodyPost_ret (results_none rfl _ _ _) rfl ?_
        exact ⟨rfl, ⟨k1, Hp1.out, Hu1.out.done (.inr (by rw [← Hp.out, Hx.out, Hy.out]; exact Hlt.out)), Hr2.out⟩, Hk2.out⟩
    · obtain rfl : j = 0 := by omega
      go_wp2
      go_end0
      exact ⟨rfl, ⟨k1, Hp1.out, Hu1.out.done (.inl rfl), Hr1.out⟩, Hk1.out⟩

end Go.Proofs.Ythpcaamfcmjnmaa
