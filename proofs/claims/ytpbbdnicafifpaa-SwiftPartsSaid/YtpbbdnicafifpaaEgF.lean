/-
  What give of the engine comes to: told, under way, or there at once.
  Conditions: none beyond each theorem's own.
-/
import Derived.Test.YtpbbdnicafifpaaEg1
namespace Go.Proofs.Ytpbbdnicafifpaa
open Go.RowKit
set_option linter.unusedVariables false

theorem EgAt.awayAt {w0 w : World} {c : EC} {e : Eg} (h : EgAt w0 w c e) {p : Nat} {x : Bool} (hp : c.aw[p]? = some x) : ∃ g off cap, c.va = .slice (some ⟨g, off, none⟩) c.aw.length cap ∧ g < w.heap.size ∧ w.cell? ⟨g, off + p, none⟩ = some (.bool x) := by
  have hv : (boolRow c.va c.aw).own w0.heap.size w := h.fixed (by unfold EC.fix; simp)
  have hA : RowAt 1 w c.va c.aw.length (c.aw.flatMap boolL) := RowAt.of_own hv
  obtain ⟨a, cap, e1⟩ := RowAt.len hA
  rw [e1] at hA
  obtain ⟨g, off, e2, hg, hc⟩ := RowAt.elem boolL_len hA hp
  exact ⟨g, off, cap, by rw [e1, e2], hg, by have := hc 0 _ rfl; simpa using this⟩
theorem EOk.plus {c : EC} (h : EOk c) (r : Row) : EOk (c.plus r) := ⟨h.l, h.nok, h.nq, h.nm, h.nw⟩

set_option maxRecDepth 100000 in
set_option maxHeartbeats 4000000 in
/-- tokens for another engine's place are told -/
theorem give_away {w0 w : World} {c : EC} {e : Eg} {p : Nat} {t n : Int}  (hc : EOk c) (h : EgAt w0 w c e) (haw : c.aw[p]? = some true) (hl : e.told.length ≤ 1000000) :
    Calls Try.prog 89 #[.pointer (some ⟨c.b, 0, none⟩), .agg #[.int .i64 t, .int .i64 p, .int .i64 n]] w fun r w' => r = .returned (.bool true) ∧ EgAt w0 w' c {e with told := e.told ++ [⟨t, (p : Int), n⟩]} := by
  have h1 := h.plusBox #[.int .i64 t, .int .i64 p, .int .i64 n] 74
  obtain ⟨kb, hkb⟩ : ∃ q, q = w.heap.size := ⟨_, rfl⟩
  rw [← hkb] at h1
  have hpi : (p : Int) < (c.aw.length : Int) := by have := lt_at haw; omega
  have hpa : p < c.aw.length := lt_at haw
  have H1 := Lib.hid h1
  have Hkb := Lib.hid hkb
  have Haw := Lib.hid haw
  have Hl := Lib.hid hl
  clear h haw h1 hl hc
  go_enter Try.func89, Try.ntmps89
  go_upto_region 2 with (fail)
  rw [← Hkb.out]
  clear hkb Hkb
  revert H1
  generalize (w.alloc (.cells #[.int .i64 t, .int .i64 (p : Int), .int .i64 n] 74)) = V
  intro H1
  go_cut [11] from 11 to 19 (fun s wc => s = .bool true ∧ Below V.heap.size V wc)
  case first =>
    have h1 := H1.out
    have k2 := h1.cells.2.2.1
    have hbl := h1.cells.2.2.2.2.2.2.2.2.1
    obtain ⟨g, off, cap, eva, hg, ha⟩ := h1.minus.awayAt Haw.out
    simp only [EC.plus] at k2 hbl
    rw [eva] at k2
    have hbx := h1.beside
    have x1 := boxRow.cell hbx (j := 1) rfl
    have xl := (boxRow.lt hbx).2
    clear h1 hbx H1 eva
    go_wp2
    go_quiet (fail)
    go_wp2
    go_meet
    case rel => exact ⟨rfl, drewNb _ _⟩
  case rest =>
    obtain ⟨rfl, hb⟩ := hcut
    rename World => V1
    have H2 := Lib.hid (H1.out.go hb)
    clear hb H1 hpi hpa
    go_upto_region 3 with (fail)
    have h2 := H2.out
    have hd := h2.minus.go (Below.refl _ _).drew
    obtain ⟨a, cap, k7, -⟩ := h2.minus.tolds
    obtain ⟨a', n', c', w', hrun, h3, kc, kf, kl⟩ := hd.pushT Hl.out 70 ⟨t, (p : Int), n⟩ (a := a) (cap := cap) k7
    have hbl := h2.cells.2.2.2.2.2.2.2.2.1
    simp only [EC.plus] at hbl
    have hbx := h2.beside
    have x0 := boxRow.cell hbx (j := 0) rfl
    have x1 := boxRow.cell hbx (j := 1) rfl
    have x2 := boxRow.cell hbx (j := 2) rfl
    have xl := (boxRow.lt hbx).2
    have H3 := Lib.hid h3
    simp only at hrun
    obtain ⟨lt, hlt⟩ : ∃ k, k = e.told.length := ⟨_, rfl⟩
    rw [← hlt] at k7 hrun kc
    clear h2 hd h3 hbx hlt H2 Hl
    go_region_law (first | (refine step_append_eq (by rfl) (.tmp 24) (.tmp 26) 70 (by rfl) (by rfl) (by rfl) hrun ?_))
    all_goals
      clear k7 hrun kc kf kl hbl x0 x1 x2 xl
      go_wp2
      go_ret
      exact ⟨rfl, H3.out⟩

set_option maxRecDepth 100000 in
set_option maxHeartbeats 4000000 in
/-- tokens that come later are under way -/
theorem give_later {w0 w : World} {c : EC} {e : Eg} {p : Nat} {t n : Int} {z : Int} (hc : EOk c) (h : EgAt w0 w c e) (haw : c.aw[p]? = some false) (hg : e.t < t) (hh : IsHeap e.due) (hdl : e.due.length ≤ 100000) (hm : e.way.length = c.n.places.length) (hz : e.way[p]? = some z) (hz0 : 0 ≤ z) (hn : 1 ≤ n) (hzn : z + n ≤ 1099511627776) :
    Calls Try.prog 89 #[.pointer (some ⟨c.b, 0, none⟩), .agg #[.int .i64 t, .int .i64 p, .int .i64 n]] w fun r w' => r = .returned (.bool true) ∧ ∃ D, D.Perm ((t, 0, (p : Int), n) :: e.due) ∧ IsHeap D ∧ EgAt w0 w' c {e with due := D, way := e.way.set p (z + n)} := by
  have h1 := h.plusBox #[.int .i64 t, .int .i64 p, .int .i64 n] 74
  obtain ⟨kb, hkb⟩ : ∃ q, q = w.heap.size := ⟨_, rfl⟩
  rw [← hkb] at h1
  have hpi : (p : Int) < (c.aw.length : Int) := by have := lt_at haw; omega
  have hpa : p < c.aw.length := lt_at haw
  have H1 := Lib.hid h1
  have Hkb := Lib.hid hkb
  have Haw := Lib.hid haw
  have HCome := Lib.hid (fun W (hW : EgAt w0 W c e) => come_any (t := t) hc hW hh hdl hm hz hz0 hn hzn)
  clear h haw h1 hc hh hdl hm hz hz0 hn hzn
  go_enter Try.func89, Try.ntmps89
  go_upto_region 2 with (fail)
  rw [← Hkb.out]
  clear hkb Hkb
  revert H1
  generalize (w.alloc (.cells #[.int .i64 t, .int .i64 (p : Int), .int .i64 n] 74)) = V
  intro H1
  go_cut [11] from 11 to 19 (fun s wc => s = .bool false ∧ Below V.heap.size V wc)
  case first =>
    have h1 := H1.out
    have k2 := h1.cells.2.2.1
    have hbl := h1.cells.2.2.2.2.2.2.2.2.1
    obtain ⟨g, off, cap, eva, hg, ha⟩ := h1.minus.awayAt Haw.out
    simp only [EC.plus] at k2 hbl
    rw [eva] at k2
    have hbx := h1.beside
    have x1 := boxRow.cell hbx (j := 1) rfl
    have xl := (boxRow.lt hbx).2
    clear h1 hbx H1 eva
    go_wp2
    go_quiet (fail)
    go_wp2
    go_meet
    case rel => exact ⟨rfl, drewNb _ _⟩
  case rest =>
    obtain ⟨rfl, hb⟩ := hcut
    rename World => V1
    have H2 := Lib.hid (H1.out.go hb)
    clear hb H1 hpi hpa
    go_upto_region 4 with (fail)
    go_cut [30] from 30 to 37 (fun s wc => s = .bool true ∧ Below V1.heap.size V1 wc)
    case first =>
      have h2 := H2.out
      have k11 := h2.cells.2.2.2.2.2.2.2.1
      have hbl := h2.cells.2.2.2.2.2.2.2.2.1
      simp only [EC.plus] at k11 hbl
      have hbx := h2.beside
      have x0 := boxRow.cell hbx (j := 0) rfl
      have xl := (boxRow.lt hbx).2
      obtain ⟨tt, htt⟩ : ∃ q, q = e.t := ⟨_, rfl⟩
      rw [← htt] at k11 hg
      clear h2 hbx H2 htt HCome
      go_wp2
      go_quiet (fail)
      go_wp2
      go_meet
      case rel => exact ⟨by first | rfl | simp [hg], drewNb _ _⟩
    case rest =>
      obtain ⟨rfl, hb⟩ := hcut
      rename World => V2
      have h3 := H2.out.go hb
      have hbl := h3.cells.2.2.2.2.2.2.2.2.1
      simp only [EC.plus] at hbl
      have hbx := h3.beside
      have x0 := boxRow.cell hbx (j := 0) rfl
      have x1 := boxRow.cell hbx (j := 1) rfl
      have x2 := boxRow.cell hbx (j := 2) rfl
      have xl := (boxRow.lt hbx).2
      have h4 := h3.minus
      have HC := Lib.hid (HCome.out V2 h4)
      clear h3 h4 hbx H2 hb HCome
      go_wp2_with fail
      refine HC.out.mono ?_
      rintro r w5 ⟨rfl, D, hD1, hD2, h5⟩
      have H5 := Lib.hid (And.intro hD1 (And.intro hD2 h5))
      clear hD1 hD2 h5 x0 x1 x2 xl hbl
      go_wp2
      go_ret
      exact ⟨rfl, D, H5.out⟩

set_option maxRecDepth 100000 in
set_option maxHeartbeats 4000000 in
/-- tokens that are due are there at once -/
theorem give_now {w0 w : World} {c : EC} {e : Eg} {p : Nat} {t n : Int} {z : Int} {v : Value} {es : List Int} (hc : EOk c) (h : EgAt w0 w c e) (haw : c.aw[p]? = some false) (hg : ¬ e.t < t) (hp : c.es[p]? = some (v, es)) (hes : ∀ j ∈ es, 0 ≤ j ∧ j < (c.n.trans.length : Int)) (hR : RQ c.n.trans e.rdy e.qd) (hm : e.m.length = c.n.places.length) (hz : e.m[p]? = some z) (hz0 : 0 ≤ z) (hn : 1 ≤ n) (hzn : z + n ≤ 1099511627776) :
    Calls Try.prog 89 #[.pointer (some ⟨c.b, 0, none⟩), .agg #[.int .i64 t, .int .i64 p, .int .i64 n]] w fun r w' => r = .returned (.bool true) ∧ ∃ R', RQ c.n.trans R' (wakeQ es e.qd) ∧ EgAt w0 w' c {e with rdy := R', qd := wakeQ es e.qd, m := e.m.set p (z + n)} := by
  have h1 := h.plusBox #[.int .i64 t, .int .i64 p, .int .i64 n] 74
  obtain ⟨kb, hkb⟩ : ∃ q, q = w.heap.size := ⟨_, rfl⟩
  rw [← hkb] at h1
  have hpi : (p : Int) < (c.aw.length : Int) := by have := lt_at haw; omega
  have hpa : p < c.aw.length := lt_at haw
  have H1 := Lib.hid h1
  have Hkb := Lib.hid hkb
  have Haw := Lib.hid haw
  have HPut := Lib.hid (fun W (hW : EgAt w0 W c e) => eput_any (n := n) hc hW hp hes hR hm hz hz0 hn hzn)
  clear h haw h1 hc hp hes hR hm hz hz0 hn hzn
  go_enter Try.func89, Try.ntmps89
  go_upto_region 2 with (fail)
  rw [← Hkb.out]
  clear hkb Hkb
  revert H1
  generalize (w.alloc (.cells #[.int .i64 t, .int .i64 (p : Int), .int .i64 n] 74)) = V
  intro H1
  go_cut [11] from 11 to 19 (fun s wc => s = .bool false ∧ Below V.heap.size V wc)
  case first =>
    have h1 := H1.out
    have k2 := h1.cells.2.2.1
    have hbl := h1.cells.2.2.2.2.2.2.2.2.1
    obtain ⟨g, off, cap, eva, hg, ha⟩ := h1.minus.awayAt Haw.out
    simp only [EC.plus] at k2 hbl
    rw [eva] at k2
    have hbx := h1.beside
    have x1 := boxRow.cell hbx (j := 1) rfl
    have xl := (boxRow.lt hbx).2
    clear h1 hbx H1 eva
    go_wp2
    go_quiet (fail)
    go_wp2
    go_meet
    case rel => exact ⟨rfl, drewNb _ _⟩
  case rest =>
    obtain ⟨rfl, hb⟩ := hcut
    rename World => V1
    have H2 := Lib.hid (H1.out.go hb)
    clear hb H1 hpi hpa
    go_upto_region 4 with (fail)
    go_cut [30] from 30 to 37 (fun s wc => s = .bool false ∧ Below V1.heap.size V1 wc)
    case first =>
      have h2 := H2.out
      have k11 := h2.cells.2.2.2.2.2.2.2.1
      have hbl := h2.cells.2.2.2.2.2.2.2.2.1
      simp only [EC.plus] at k11 hbl
      have hbx := h2.beside
      have x0 := boxRow.cell hbx (j := 0) rfl
      have xl := (boxRow.lt hbx).2
      obtain ⟨tt, htt⟩ : ∃ q, q = e.t := ⟨_, rfl⟩
      rw [← htt] at k11 hg
      clear h2 hbx H2 htt HPut
      have hgb : decide (tt < t) = false := decide_eq_false hg
      go_wp2
      go_quiet (fail)
      go_wp2
      go_meet
      case rel => exact ⟨by first | rfl | simp [hg], drewNb _ _⟩
    case rest =>
      obtain ⟨rfl, hb⟩ := hcut
      rename World => V2
      have h3 := H2.out.go hb
      have hbl := h3.cells.2.2.2.2.2.2.2.2.1
      simp only [EC.plus] at hbl
      have hbx := h3.beside
      have x0 := boxRow.cell hbx (j := 0) rfl
      have x1 := boxRow.cell hbx (j := 1) rfl
      have x2 := boxRow.cell hbx (j := 2) rfl
      have xl := (boxRow.lt hbx).2
      have h4 := h3.minus
      have HC := Lib.hid (HPut.out V2 h4)
      clear h3 h4 hbx H2 hb HPut
      go_wp2_with fail
      refine HC.out.mono ?_
      rintro r w5 ⟨rfl, R, h5, h6⟩
      have H5 := Lib.hid (And.intro h5 h6)
      clear h5 h6 x0 x1 x2 xl hbl
      go_wp2
      go_ret
      exact ⟨rfl, R, H5.out⟩
end Go.Proofs.Ytpbbdnicafifpaa
