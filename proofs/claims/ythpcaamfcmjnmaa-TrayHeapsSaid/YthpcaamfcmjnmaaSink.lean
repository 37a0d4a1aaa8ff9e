/-
  What sink of tray's Heap comes to: a row that is a heap but for one key that may be too great for its place becomes a heap of the same keys; nothing else that was there changes.
  Conditions: the place is in the row; the row has at most 1000000 keys.
-/
import Derived.Test.YthpcaamfcmjnmaaSinkA
namespace Go.Proofs.Ythpcaamfcmjnmaa
open Go.RowKit

/-- the least one so far, behind m of the two children -/
def lm (ks : List Key4) (i : Nat) : Nat → Nat
  | 0 => i
  | 1 => if 2 * i + 1 < ks.length ∧ klt (at4 ks (2 * i + 1)) (at4 ks i) = true then 2 * i + 1 else i
  | _ => least4 ks i

theorem idx0 (a b : Value) (w : World) : Sem.run Try.prog (Instr.index 39 (.agg #[a, b]) (.int .i64 0)) w = .ok a w := by
  simp [Instr.index, go_sem]
theorem idx1 (a b : Value) (w : World) : Sem.run Try.prog (Instr.index 39 (.agg #[a, b]) (.int .i64 1)) w = .ok b w := by
  simp [Instr.index, go_sem]

theorem lm_yes0 {ks : List Key4} {i c : Nat} (hc : c = 2 * i + 1) (h1 : c < ks.length) (h2 : klt (at4 ks c) (at4 ks i) = true) : lm ks i 1 = c := by
  subst hc; simp only [lm]; rw [if_pos ⟨h1, h2⟩]
theorem lm_no0 {ks : List Key4} {i c : Nat} (hc : c = 2 * i + 1) (h : c < ks.length → klt (at4 ks c) (at4 ks i) = false) : lm ks i 1 = i := by
  subst hc; simp only [lm]; rw [if_neg (fun ⟨a, b⟩ => by rw [h a] at b; cases b)]
theorem lm_yes1 {ks : List Key4} {i c L : Nat} (hc : c = 2 * i + 2) (hL : L = lm ks i 1) (h1 : c < ks.length) (h2 : klt (at4 ks c) (at4 ks L) = true) : lm ks i 2 = c := by
  subst hc hL; simp only [lm, least4] at *; rw [if_pos ⟨h1, h2⟩]
theorem lm_no1 {ks : List Key4} {i c L : Nat} (hc : c = 2 * i + 2) (hL : L = lm ks i 1) (h : c < ks.length → klt (at4 ks c) (at4 ks L) = false) : lm ks i 2 = L := by
  subst hc hL; simp only [lm, least4] at *; rw [if_neg (fun ⟨a, b⟩ => by rw [h a] at b; cases b)]
theorem lm_lt {ks : List Key4} {i : Nat} (hi : i < ks.length) : lm ks i 1 < ks.length := by
  simp only [lm]; split <;> omega

set_option maxHeartbeats 8000000 in
theorem sink_any (g r cap i : Nat) (ks : List Key4) (w : World) (hrow : KeyRow w r cap ks) (hg : w.cell? ⟨g, 0, none⟩ = some (.slice (some ⟨r, 0, none⟩) ks.length cap)) (hgl : g < w.heap.size) (hgr : g ≠ r)
    (hi : i < ks.length) (hdn : DownAt ks i) (hn : ks.length ≤ 1000000) :
    Calls Try.prog 24 #[.pointer (some ⟨g, 0, none⟩), .int .i64 i] w (Settled r cap ks w) := by
  have Hrow := Lib.hid hrow
  have Hg := Lib.hid hg
  have Hdn := Lib.hid hdn
  clear hrow hg hdn
  obtain ⟨n, hnn⟩ : ∃ n, n = ks.length := ⟨_, rfl⟩
  rw [← hnn] at hi hn Hg
  have Hn := Lib.hid hnn
  clear hnn
  go_enter Try.func24, Try.ntmps24
  go_wp2
  go_loopw [1] (fun t wr => ∃ j : Nat, ∃ k1 : List Key4, t = .int .i64 j ∧ j < n ∧ Hid (n = k1.length) ∧ k1.Perm ks ∧ DownAt k1 j ∧ KeyRow wr r cap k1 ∧ Kept (fun k => k = r) w wr) (fun t _ => n - (intOf t).toNat)
  case atStart => exact ⟨i, ks, rfl, hi, Hn, List.Perm.refl _, Hdn.out, Hrow.out, Kept.refl _ _⟩
  case round =>
    obtain ⟨j, k1, rfl, hjn, hn1, hp1, hu1, hr1, hk1⟩ := hrel
    have Hp1 := Lib.hid hp1
    have Hu1 := Lib.hid hu1
    have Hr1 := Lib.hid hr1
    have Hk1 := Lib.hid hk1
    clear hp1 hu1 hr1 hk1
    obtain ⟨c1, hc1⟩ : ∃ c1, c1 = 2 * j + 1 := ⟨_, rfl⟩
    obtain ⟨c2, hc2⟩ : ∃ c2, c2 = 2 * j + 2 := ⟨_, rfl⟩
    have CH := Lib.hid (fun w => children_any j c1 c2 w hc1 hc2 (by omega))
    have hcb1 : c1 ≤ 3000000 := by omega
    have hcb2 : c2 ≤ 3000000 := by omega
    have Hc1 := Lib.hid hc1
    have Hc2 := Lib.hid hc2
    clear hc1 hc2
    go_wp2_with fail
    refine (CH.out _).mono ?_
    rintro e wc ⟨rfl, hbc⟩
    have Hr1c := Lib.hid (Hr1.out.below hbc)
    have Hk1c : Hid (Kept (fun k => k = r) w wc) := Lib.hid (Hk1.out.trans (Kept.of_below hbc))
    clear hbc
    go_wp2
    go_loopw [4, 10] (fun L idx wr2 => ∃ m : Nat, m ≤ 2 ∧ idx = .int .i64 m ∧ L = .int .i64 (lm k1 j m) ∧ KeyRow wr2 r cap k1 ∧ Kept (fun k => k = r) w wr2) (fun _ idx _ => 2 - (intOf idx).toNat)
    case atStart => exact ⟨0, by omega, rfl, rfl, Hr1c.out, Hk1c.out⟩
    case round =>
      obtain ⟨m, hm, rfl, rfl, hr2, hk2⟩ := hrel
      have Hr2 := Lib.hid hr2
      have Hk2 := Lib.hid hk2
      clear hr2 hk2
      match m, hm with
      | 0, _ =>
        rw [show lm k1 j 0 = j from rfl]
        have hidx := fun w => idx0 (.int .i64 (c1 : Nat)) (.int .i64 (c2 : Nat)) w
        have cg := Hk2.out.cell hgl hgr Hg.out
        have hgl2 : g < wr.heap.size := Nat.lt_of_lt_of_le hgl Hk2.out.size
        have hrl2 : r < wr.heap.size := Hr2.out.lt
        by_cases hcn : c1 < n
        · obtain ⟨x, hx⟩ : ∃ x, at4 k1 c1 = x := ⟨_, rfl⟩
          obtain ⟨y, hy⟩ : ∃ y, at4 k1 j = y := ⟨_, rfl⟩
          obtain ⟨c1', c2', c3', c4'⟩ := Hr2.out.cell4 c1 (by rw [← hn1.out]; exact hcn) x hx
          obtain ⟨d1, d2, d3, d4⟩ := Hr2.out.cell4 j (by rw [← hn1.out]; exact hjn) y hy
          have Hx := Lib.hid hx
          have Hy := Lib.hid hy
          clear hx hy
          obtain ⟨x1, x2, x3, x4⟩ := x
          obtain ⟨y1, y2, y3, y4⟩ := y
          simp only at c1' c2' c3' c4' d1 d2 d3 d4
          have i1 : (0 : Int) ≤ (c1 : Int) := by omega
          have i2 : (c1 : Int) < (n : Int) := by omega
          have i3 : (0 : Int) ≤ (j : Int) := by omega
          have i4 : (j : Int) < (n : Int) := by omega
          have gd : decide ((c1 : Int) < (n : Int)) = true := by simp; omega
          have gd2 : decide (c1 < n) = true := by simp; omega
          cases hlt : klt (x1, x2, x3, x4) (y1, y2, y3, y4) with
          | true =>
            have Hnx : Hid (lm k1 j 1 = c1) := Lib.hid (lm_yes0 Hc1.out (by rw [← hn1.out]; exact hcn) (by rw [Hx.out, Hy.out]; exact hlt))
            go_wp2
            go_region_held3 (fun w' => w'.cell? ⟨g, 0, none⟩ = some (.slice (some ⟨r, 0, none⟩) n cap) ∧ w'.cell? ⟨r, c1 * 4, none⟩ = some (.int .i64 x1) ∧ w'.cell? ⟨r, c1 * 4 + 1, none⟩ = some (.int .i64 x2) ∧ w'.cell? ⟨r, c1 * 4 + 2, none⟩ = some (.int .i64 x3) ∧ w'.cell? ⟨r, c1 * 4 + 3, none⟩ = some (.int .i64 x4)
            ∧ w'.cell? ⟨r, j * 4, none⟩ = some (.int .i64 y1) ∧ w'.cell? ⟨r, j * 4 + 1, none⟩ = some (.int .i64 y2) ∧ w'.cell? ⟨r, j * 4 + 2, none⟩ = some (.int .i64 y3) ∧ w'.cell? ⟨r, j * 4 + 3, none⟩ = some (.int .i64 y4))
              (first | exact kk | go_keep)
              (first | (go_at_call 28; ((with_reducible refine (less_any _ _ _ _ _ _ _ _ _).mono ?_); rintro e w' ⟨rfl, hbw⟩; have kk := And.intro (cellB hbw hgl2 cg) (And.intro (cellB hbw hrl2 c1') (And.intro (cellB hbw hrl2 c2') (And.intro (cellB hbw hrl2 c3') (And.intro (cellB hbw hrl2 c4') (And.intro (cellB hbw hrl2 d1) (And.intro (cellB hbw hrl2 d2) (And.intro (cellB hbw hrl2 d3) (cellB hbw hrl2 d4)))))))))))
            have Hr3 := Lib.hid (Hr2.out.below (undrew hbw))
            have Hk3 : Hid (Kept (fun k => k = r) w w') := Lib.hid (Hk2.out.trans (Kept.of_below (undrew hbw)))
            clear hbw kk cg c1' c2' c3' c4' d1 d2 d3 d4 hlt
            go_wp2
            go_roundw
            case rel => exact ⟨1, by omega, rfl, by rw [Hnx.out], Hr3.out, Hk3.out⟩
            case measure => simp [intOf]
          | false =>
            have Hnx : Hid (lm k1 j 1 = j) := Lib.hid (lm_no0 Hc1.out (fun _ => by rw [Hx.out, Hy.out]; exact hlt))
            go_wp2
            go_region_held3 (fun w' => w'.cell? ⟨g, 0, none⟩ = some (.slice (some ⟨r, 0, none⟩) n cap) ∧ w'.cell? ⟨r, c1 * 4, none⟩ = some (.int .i64 x1) ∧ w'.cell? ⟨r, c1 * 4 + 1, none⟩ = some (.int .i64 x2) ∧ w'.cell? ⟨r, c1 * 4 + 2, none⟩ = some (.int .i64 x3) ∧ w'.cell? ⟨r, c1 * 4 + 3, none⟩ = some (.int .i64 x4)
            ∧ w'.cell? ⟨r, j * 4, none⟩ = some (.int .i64 y1) ∧ w'.cell? ⟨r, j * 4 + 1, none⟩ = some (.int .i64 y2) ∧ w'.cell? ⟨r, j * 4 + 2, none⟩ = some (.int .i64 y3) ∧ w'.cell? ⟨r, j * 4 + 3, none⟩ = some (.int .i64 y4))
              (first | exact kk | go_keep)
              (first | (go_at_call 28; ((with_reducible refine (less_any _ _ _ _ _ _ _ _ _).mono ?_); rintro e w' ⟨rfl, hbw⟩; have kk := And.intro (cellB hbw hgl2 cg) (And.intro (cellB hbw hrl2 c1') (And.intro (cellB hbw hrl2 c2') (And.intro (cellB hbw hrl2 c3') (And.intro (cellB hbw hrl2 c4') (And.intro (cellB hbw hrl2 d1) (And.intro (cellB hbw hrl2 d2) (And.intro (cellB hbw hrl2 d3) (cellB hbw hrl2 d4)))))))))))
            have Hr3 := Lib.hid (Hr2.out.below (undrew hbw))
            have Hk3 : Hid (Kept (fun k => k = r) w w') := Lib.hid (Hk2.out.trans (Kept.of_below (undrew hbw)))
            clear hbw kk cg c1' c2' c3' c4' d1 d2 d3 d4 hlt
            go_wp2
            go_roundw
            case rel => exact ⟨1, by omega, rfl, by rw [Hnx.out], Hr3.out, Hk3.out⟩
            case measure => simp [intOf]
        · have gd : decide ((c1 : Int) < (n : Int)) = false := by simp; omega
          have gd2 : decide (c1 < n) = false := by simp; omega
          have Hnx : Hid (lm k1 j 1 = j) := Lib.hid (lm_no0 Hc1.out (fun h => absurd h (by rw [← hn1.out]; exact hcn)))
          go_wp2
          go_quiet (fail)
          go_wp2
          go_roundw
          case rel => exact ⟨1, by omega, rfl, by rw [Hnx.out], Hr2.out.same rfl, Hk2.out.drewN _⟩
          case measure => simp [intOf]

      | 1, _ =>
        obtain ⟨L, hL⟩ : ∃ L, L = lm k1 j 1 := ⟨_, rfl⟩
        have hLn : L < n := by rw [hL, hn1.out]; exact lm_lt (by rw [← hn1.out]; exact hjn)
        rw [← hL]
        have HL := Lib.hid hL
        clear hL
        have hidx := fun w => idx1 (.int .i64 (c1 : Nat)) (.int .i64 (c2 : Nat)) w
        have cg := Hk2.out.cell hgl hgr Hg.out
        have hgl2 : g < wr.heap.size := Nat.lt_of_lt_of_le hgl Hk2.out.size
        have hrl2 : r < wr.heap.size := Hr2.out.lt
        by_cases hcn : c2 < n
        · obtain ⟨x, hx⟩ : ∃ x, at4 k1 c2 = x := ⟨_, rfl⟩
          obtain ⟨y, hy⟩ : ∃ y, at4 k1 L = y := ⟨_, rfl⟩
          obtain ⟨c1', c2', c3', c4'⟩ := Hr2.out.cell4 c2 (by rw [← hn1.out]; exact hcn) x hx
          obtain ⟨d1, d2, d3, d4⟩ := Hr2.out.cell4 L (by rw [← hn1.out]; exact hLn) y hy
          have Hx := Lib.hid hx
          have Hy := Lib.hid hy
          clear hx hy
          obtain ⟨x1, x2, x3, x4⟩ := x
          obtain ⟨y1, y2, y3, y4⟩ := y
          simp only at c1' c2' c3' c4' d1 d2 d3 d4
          have i1 : (0 : Int) ≤ (c2 : Int) := by omega
          have i2 : (c2 : Int) < (n : Int) := by omega
          have i3 : (0 : Int) ≤ (L : Int) := by omega
          have i4 : (L : Int) < (n : Int) := by omega
          have gd : decide ((c2 : Int) < (n : Int)) = true := by simp; omega
          have gd2 : decide (c2 < n) = true := by simp; omega
          cases hlt : klt (x1, x2, x3, x4) (y1, y2, y3, y4) with
          | true =>
            have Hnx : Hid (lm k1 j 2 = c2) := Lib.hid (lm_yes1 Hc2.out HL.out (by rw [← hn1.out]; exact hcn) (by rw [Hx.out, Hy.out]; exact hlt))
            go_wp2
            go_region_held3 (fun w' => w'.cell? ⟨g, 0, none⟩ = some (.slice (some ⟨r, 0, none⟩) n cap) ∧ w'.cell? ⟨r, c2 * 4, none⟩ = some (.int .i64 x1) ∧ w'.cell? ⟨r, c2 * 4 + 1, none⟩ = some (.int .i64 x2) ∧ w'.cell? ⟨r, c2 * 4 + 2, none⟩ = some (.int .i64 x3) ∧ w'.cell? ⟨r, c2 * 4 + 3, none⟩ = some (.int .i64 x4)
            ∧ w'.cell? ⟨r, L * 4, none⟩ = some (.int .i64 y1) ∧ w'.cell? ⟨r, L * 4 + 1, none⟩ = some (.int .i64 y2) ∧ w'.cell? ⟨r, L * 4 + 2, none⟩ = some (.int .i64 y3) ∧ w'.cell? ⟨r, L * 4 + 3, none⟩ = some (.int .i64 y4))
              (first | exact kk | go_keep)
              (first | (go_at_call 28; ((with_reducible refine (less_any _ _ _ _ _ _ _ _ _).mono ?_); rintro e w' ⟨rfl, hbw⟩; have kk := And.intro (cellB hbw hgl2 cg) (And.intro (cellB hbw hrl2 c1') (And.intro (cellB hbw hrl2 c2') (And.intro (cellB hbw hrl2 c3') (And.intro (cellB hbw hrl2 c4') (And.intro (cellB hbw hrl2 d1) (And.intro (cellB hbw hrl2 d2) (And.intro (cellB hbw hrl2 d3) (cellB hbw hrl2 d4)))))))))))
            have Hr3 := Lib.hid (Hr2.out.below (undrew hbw))
            have Hk3 : Hid (Kept (fun k => k = r) w w') := Lib.hid (Hk2.out.trans (Kept.of_below (undrew hbw)))
            clear hbw kk cg c1' c2' c3' c4' d1 d2 d3 d4 hlt
            go_wp2
            go_roundw
            case rel => exact ⟨2, by omega, rfl, by rw [Hnx.out], Hr3.out, Hk3.out⟩
            case measure => simp [intOf]
          | false =>
            have Hnx : Hid (lm k1 j 2 = L) := Lib.hid (lm_no1 Hc2.out HL.out (fun _ => by rw [Hx.out, Hy.out]; exact hlt))
            go_wp2
            go_region_held3 (fun w' => w'.cell? ⟨g, 0, none⟩ = some (.slice (some ⟨r, 0, none⟩) n cap) ∧ w'.cell? ⟨r, c2 * 4, none⟩ = some (.int .i64 x1) ∧ w'.cell? ⟨r, c2 * 4 + 1, none⟩ = some (.int .i64 x2) ∧ w'.cell? ⟨r, c2 * 4 + 2, none⟩ = some (.int .i64 x3) ∧ w'.cell? ⟨r, c2 * 4 + 3, none⟩ = some (.int .i64 x4)
            ∧ w'.cell? ⟨r, L * 4, none⟩ = some (.int .i64 y1) ∧ w'.cell? ⟨r, L * 4 + 1, none⟩ = some (.int .i64 y2) ∧ w'.cell? ⟨r, L * 4 + 2, none⟩ = some (.int .i64 y3) ∧ w'.cell? ⟨r, L * 4 + 3, none⟩ = some (.int .i64 y4))
              (first | exact kk | go_keep)
              (first | (go_at_call 28; ((with_reducible refine (less_any _ _ _ _ _ _ _ _ _).mono ?_); rintro e w' ⟨rfl, hbw⟩; have kk := And.intro (cellB hbw hgl2 cg) (And.intro (cellB hbw hrl2 c1') (And.intro (cellB hbw hrl2 c2') (And.intro (cellB hbw hrl2 c3') (And.intro (cellB hbw hrl2 c4') (And.intro (cellB hbw hrl2 d1) (And.intro (cellB hbw hrl2 d2) (And.intro (cellB hbw hrl2 d3) (cellB hbw hrl2 d4)))))))))))
            have Hr3 := Lib.hid (Hr2.out.below (undrew hbw))
            have Hk3 : Hid (Kept (fun k => k = r) w w') := Lib.hid (Hk2.out.trans (Kept.of_below (undrew hbw)))
            clear hbw kk cg c1' c2' c3' c4' d1 d2 d3 d4 hlt
            go_wp2
            go_roundw
            case rel => exact ⟨2, by omega, rfl, by rw [Hnx.out], Hr3.out, Hk3.out⟩
            case measure => simp [intOf]
        · have gd : decide ((c2 : Int) < (n : Int)) = false := by simp; omega
          have gd2 : decide (c2 < n) = false := by simp; omega
          have Hnx : Hid (lm k1 j 2 = L) := Lib.hid (lm_no1 Hc2.out HL.out (fun h => absurd h (by rw [← hn1.out]; exact hcn)))
          go_wp2
          go_quiet (fail)
          go_wp2
          go_roundw
          case rel => exact ⟨2, by omega, rfl, by rw [Hnx.out], Hr2.out.same rfl, Hk2.out.drewN _⟩
          case measure => simp [intOf]

      | 2, _ =>
        rw [show lm k1 j 2 = least4 k1 j from rfl]
        obtain ⟨L, hL⟩ : ∃ L, L = least4 k1 j := ⟨_, rfl⟩
        rw [← hL]
        have hLn : L < n := by rw [hL, hn1.out]; exact least4_lt (by rw [← hn1.out]; exact hjn)
        have HL := Lib.hid hL
        clear hL
        by_cases hLj : L = j
        · have hb : ((L : Int) == (j : Int)) = true := by rw [beq_iff_eq]; omega
          have HLj := Lib.hid hLj
          clear hLj
          go_wp2
          refine bodyPost_ret (results_none rfl _ _ _) rfl ?_
          exact ⟨rfl, ⟨k1, Hp1.out, Hu1.out.done (by rw [← HL.out]; exact HLj.out), Hr2.out⟩, Hk2.out⟩
        · have hjL : j < L := by
            have := least4_cases k1 j
            rw [← HL.out] at this
            omega
          have hb : ((L : Int) == (j : Int)) = false := by rw [beq_eq_false_iff_ne]; omega
          clear hLj
          have hjL' : j ≠ L := by omega
          obtain ⟨x, hx⟩ : ∃ x, at4 k1 j = x := ⟨_, rfl⟩
          obtain ⟨y, hy⟩ : ∃ y, at4 k1 L = y := ⟨_, rfl⟩
          obtain ⟨c1', c2', c3', c4'⟩ := Hr2.out.cell4 j (by rw [← hn1.out]; exact hjn) x hx
          obtain ⟨d1, d2, d3, d4⟩ := Hr2.out.cell4 L (by rw [← hn1.out]; exact hLn) y hy
          have cg := Hk2.out.cell hgl hgr Hg.out
          have Hx := Lib.hid hx
          have Hy := Lib.hid hy
          clear hx hy
          obtain ⟨x1, x2, x3, x4⟩ := x
          obtain ⟨y1, y2, y3, y4⟩ := y
          simp only at c1' c2' c3' c4' d1 d2 d3 d4
          have i1 : (0 : Int) ≤ (L : Int) := by omega
          have i2 : (L : Int) < (n : Int) := by omega
          have i3 : (0 : Int) ≤ (j : Int) := by omega
          have i4 : (j : Int) < (n : Int) := by omega
          have f1 := Hr2.out.frozen (j * 4)
          have f2 := Hr2.out.frozen (j * 4 + 1)
          have f3 := Hr2.out.frozen (j * 4 + 2)
          have f4 := Hr2.out.frozen (j * 4 + 3)
          have f5 := Hr2.out.frozen (L * 4)
          have f6 := Hr2.out.frozen (L * 4 + 1)
          have f7 := Hr2.out.frozen (L * 4 + 2)
          have f8 := Hr2.out.frozen (L * 4 + 3)
          go_wp2
          go_region
          go_wp2
          go_roundw
          case rel =>
            have hjl : j < k1.length := by rw [← hn1.out]; exact hjn
            have hLl : L < k1.length := by rw [← hn1.out]; exact hLn
            have hs := (swap_world wr r j L k1 cap Hr2.out hjl hLl).drew
            rw [Hx.out, Hy.out] at hs
            have hk := ((Hk2.out.put (r := r) rfl j (y1, y2, y3, y4)).put (r := r) rfl L (x1, x2, x3, x4)).drew
            have hu := Hu1.out.step hjl (by rw [← HL.out]; omega)
            rw [← HL.out] at hu
            exact ⟨L, swap4 k1 j L, rfl, hLn, Lib.hid (by rw [swap4_len]; exact hn1.out), (swap4_perm k1 j L hjl hLl).trans Hp1.out, hu, hs, hk⟩
          case measure => simp [intOf]; omega

end Go.Proofs.Ythpcaamfcmjnmaa
