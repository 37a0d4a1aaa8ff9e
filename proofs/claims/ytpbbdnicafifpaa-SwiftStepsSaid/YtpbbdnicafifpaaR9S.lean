/-
  The document's own comparison of two runs: two that came to the same are the same.
  Conditions: none beyond each theorem's own.
-/
import Derived.Test.YtpbbdnicafifpaaRunQ
import Derived.Deep.QuietTactic
import Derived.BigQuiet
namespace Go.Proofs.Ytpbbdnicafifpaa
open Go.RowKit
set_option linter.unusedVariables false

set_option maxRecDepth 100000 in
set_option maxHeartbeats 1000000 in
theorem samelog_same {w : World} {a b : Option Addr} {n c d : Nat} {l : List (Int × Int)} (hn : n = l.length) (h1 : FisAt w (.slice a n c) l) (h2 : FisAt w (.slice b n d) l) :
    Calls Try.prog 39 #[.slice a n c, .slice b n d] w fun e w' => e = .returned (.bool true) ∧ Below w.heap.size w w' := by
  have hmax : n ≤ 9223372036854775807 := by have := RowAt.max h1; omega
  have Hn := Lib.hid hn
  have H1 := Lib.hid h1
  have H2 := Lib.hid h2
  clear hn h1 h2
  go_enter Try.func39, Try.ntmps39
  go_wp2
  go_loopw [5] (fun i wr => ∃ k : Nat, k ≤ n ∧ i = .int .i64 k ∧ Below w.heap.size w wr) (fun i _ => n - (intOf i).toNat)
  case atStart => exact ⟨0, by omega, rfl, Below.refl _ _⟩
  case round =>
    rename World => v1
    obtain ⟨k, hk, rfl, hbl⟩ := hrel
    by_cases hlt : k < n
    · obtain ⟨⟨x, y⟩, hx⟩ := at_lt (l := l) (k := k) (by rw [← Hn.out]; exact hlt)
      have hlti : (k : Int) < (n : Int) := by omega
      obtain ⟨g1, o1, rfl, hg1, e0, e1⟩ := FisAt.at_ (FisAt.below H1.out hbl) hx
      obtain ⟨g2, o2, rfl, hg2, f0, f1⟩ := FisAt.at_ (FisAt.below H2.out hbl) hx
      have Hb := Lib.hid hbl
      simp only at e0 e1 f0 f1
      clear hx hbl
      go_wp2
      go_quiet (fail)
      go_wp2
      go_roundw
      case rel => exact ⟨k + 1, by omega, by go_num, Hb.out.trans ((drewNb _ _).mono Hb.out.size)⟩
      case measure => simp [intOf]; omega
    · have hge : ¬ (k : Int) < (n : Int) := by omega
      have Hb := Lib.hid hbl
      clear hbl
      go_wp2
      go_ret
      exact ⟨rfl, Hb.out⟩

set_option maxRecDepth 100000 in
set_option maxHeartbeats 1000000 in
theorem sameints_same {w : World} {a b : Option Addr} {n c d : Nat} {l : List Int} (hn : n = l.length) (h1 : IntsAt w (.slice a n c) l) (h2 : IntsAt w (.slice b n d) l) :
    Calls Try.prog 57 #[.slice a n c, .slice b n d] w fun e w' => e = .returned (.bool true) ∧ Below w.heap.size w w' := by
  have hmax : n ≤ 9223372036854775807 := by have := RowAt.max h1; omega
  have Hn := Lib.hid hn
  have H1 := Lib.hid h1
  have H2 := Lib.hid h2
  clear hn h1 h2
  go_enter Try.func57, Try.ntmps57
  go_wp2
  go_loopw [5] (fun i wr => ∃ k : Nat, k ≤ n ∧ i = .int .i64 k ∧ Below w.heap.size w wr) (fun i _ => n - (intOf i).toNat)
  case atStart => exact ⟨0, by omega, rfl, Below.refl _ _⟩
  case round =>
    rename World => v1
    obtain ⟨k, hk, rfl, hbl⟩ := hrel
    by_cases hlt : k < n
    · obtain ⟨x, hx⟩ := at_lt (l := l) (k := k) (by rw [← Hn.out]; exact hlt)
      have hlti : (k : Int) < (n : Int) := by omega
      obtain ⟨g1, o1, rfl, hg1, e0⟩ := IntsAt.at_ (IntsAt.below H1.out hbl) hx
      obtain ⟨g2, o2, rfl, hg2, f0⟩ := IntsAt.at_ (IntsAt.below H2.out hbl) hx
      have Hb := Lib.hid hbl
      clear hx hbl
      go_wp2
      go_quiet (fail)
      go_wp2
      go_roundw
      case rel => exact ⟨k + 1, by omega, by go_num, Hb.out.trans ((drewNb _ _).mono Hb.out.size)⟩
      case measure => simp [intOf]; omega
    · have hge : ¬ (k : Int) < (n : Int) := by omega
      have Hb := Lib.hid hbl
      clear hbl
      go_wp2
      go_ret
      exact ⟨rfl, Hb.out⟩


set_option maxRecDepth 100000 in
set_option maxHeartbeats 4000000 in
theorem rsame_same {w : World} {u : St} {al bl am bm aw bw : Option Addr} {ll np nw cl dl cm dm cw dw : Nat} {t : Int} (hll : ll = u.log.length) (hnp : np = u.m.length) (hnw : nw = np)
    (h1 : ResAt w (.slice al ll cl) (.slice am np cm) (.slice aw nw cw) u) (h2 : ResAt w (.slice bl ll dl) (.slice bm np dm) (.slice bw nw dw) u) :
    Calls Try.prog 31 #[resV (.slice al ll cl) (.slice am np cm) (.slice aw nw cw) t, resV (.slice bl ll dl) (.slice bm np dm) (.slice bw nw dw) t] w fun e w' => e = .returned (.bool true) ∧ Below w.heap.size w w' := by
  have hb0 : Below w.heap.size w ((w.alloc (.cells #[.slice al ll cl, .slice am np cm, .slice aw nw cw, .int .i64 t] 51)).alloc (.cells #[.slice bl ll dl, .slice bm np dm, .slice bw nw dw, .int .i64 t] 51)) := ((Below.refl _ w).alloc (Nat.le_refl _) _).alloc (by simp) _
  obtain ⟨f1, g1, i1⟩ := h1
  obtain ⟨f2, g2, i2⟩ := h2
  have hwl : nw = (wayL u.m.length u.q).length := by rw [wayL_len, hnw, hnp]
  obtain ⟨V, hV⟩ : ∃ V, V = (w.alloc (.cells #[.slice al ll cl, .slice am np cm, .slice aw nw cw, .int .i64 t] 51)).alloc (.cells #[.slice bl ll dl, .slice bm np dm, .slice bw nw dw, .int .i64 t] 51) := ⟨_, rfl⟩
  have hs : V.heap.size = w.heap.size + 2 := by rw [hV]; simp
  have a0 : V.cell? ⟨w.heap.size, 1, none⟩ = some (.slice am np cm) := by rw [hV]; go_simp
  have a1 : V.cell? ⟨w.heap.size, 2, none⟩ = some (.slice aw nw cw) := by rw [hV]; go_simp
  have b0 : V.cell? ⟨w.heap.size + 1, 1, none⟩ = some (.slice bm np dm) := by rw [hV]; go_simp
  have b1 : V.cell? ⟨w.heap.size + 1, 2, none⟩ = some (.slice bw nw dw) := by rw [hV]; go_simp
  rw [← hV] at hb0
  have HS1 := Lib.hid (samelog_same (w := V) hll (f1.below hb0) (f2.below hb0))
  have HS2 := Lib.hid (fun W (hW : Below V.heap.size V W) => sameints_same (w := W) (a := am) (b := bm) (c := cm) (d := dm) hnp ((g1.below hb0).below hW) ((g2.below hb0).below hW))
  have HS3 := Lib.hid (fun W (hW : Below V.heap.size V W) => sameints_same (w := W) (a := aw) (b := bw) (c := cw) (d := dw) hwl ((i1.below hb0).below hW) ((i2.below hb0).below hW))
  have Hs := Lib.hid hs
  have Hb0 := Lib.hid hb0
  have HV := Lib.hid hV
  have Ha := Lib.hid (And.intro a0 (And.intro a1 (And.intro b0 b1)))
  clear f1 g1 i1 f2 g2 i2 hwl hll hnp hnw a0 a1 b0 b1 hs hb0 hV
  unfold resV
  go_enter Try.func31, Try.ntmps31
  go_wp2_with fail
  rw [← HV.out]
  refine HS1.out.mono ?_
  rintro e w1 ⟨rfl, hb1⟩
  obtain ⟨a0, a1, b0, b1⟩ := Ha.out
  have hsz := Hs.out
  have c0 := (below_cells hb1 w.heap.size 1 (by omega)).trans a0
  have d0 := (below_cells hb1 (w.heap.size + 1) 1 (by omega)).trans b0
  have hs1 : w.heap.size + 1 < w1.heap.size := by have := hb1.size; omega
  have hs2 : w.heap.size < w1.heap.size := by omega
  have Hb1 := Lib.hid hb1
  clear a0 a1 b0 b1 hb1 hsz
  go_wp2_with fail
  refine (HS2.out _ Hb1.out).mono ?_
  rintro e w2 ⟨rfl, hb2⟩
  obtain ⟨a0, a1, b0, b1⟩ := Ha.out
  have hsz := Hs.out
  have hb12 := Hb1.out.trans (hb2.mono Hb1.out.size)
  clear c0 d0 hs1 hs2
  have c0 := (below_cells hb12 w.heap.size 2 (by omega)).trans a1
  have d0 := (below_cells hb12 (w.heap.size + 1) 2 (by omega)).trans b1
  have hs1 : w.heap.size + 1 < w2.heap.size := by have := hb12.size; omega
  have hs2 : w.heap.size < w2.heap.size := by omega
  have Hb2 := Lib.hid hb12
  clear a0 a1 b0 b1 hb2 hb12 hsz
  go_wp2_with fail
  refine (HS3.out _ Hb2.out).mono ?_
  rintro e w3 ⟨rfl, hb3⟩
  have Hb3 := Lib.hid (Hb2.out.trans (hb3.mono Hb2.out.size))
  clear hb3 c0 d0 hs1 hs2
  go_wp2
  go_ret
  exact ⟨rfl, Hb0.out.trans (Hb3.out.mono Hb0.out.size)⟩
end Go.Proofs.Ytpbbdnicafifpaa
