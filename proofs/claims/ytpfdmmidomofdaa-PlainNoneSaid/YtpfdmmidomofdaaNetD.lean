/-
  What net's checkArcs comes to: the first error of some lists of arcs.
  Conditions: none beyond each theorem's own.
-/
import Derived.Test.YtpfdmmidomofdaaNetC
namespace Go.Proofs.Ytpfdmmidomofdaa
open Go.RowKit
set_option linter.unusedVariables false

theorem arcIs_any (x y z : Int) (g : Nat) (w : World) (hg : g < w.heap.size) (hc : w.cell? ⟨g, 0, none⟩ = some (.int .i64 z)) :
    Calls Try.prog 82 #[.agg #[.int .i64 x, .int .i64 y], .pointer (some ⟨g, 0, none⟩)] w fun e w' => e = .returned (.bool (x == z)) ∧ Below w.heap.size w w' := by
  go_enter Try.func82, Try.ntmps82
  go_wp2
  go_ret
  exact ⟨rfl, (Below.refl _ _).alloc (Nat.le_refl _) _⟩

set_option maxRecDepth 100000 in
set_option maxHeartbeats 1000000 in
theorem idxArc_any {w : World} {l : List (Int × Int)} {a : Option Addr} {n cap g : Nat} {z : Int} (hn : n = l.length) (h : ArcsAt w (.slice a n cap) l) (hg : g < w.heap.size) (hc : w.cell? ⟨g, 0, none⟩ = some (.int .i64 z)) :
    Calls Try.prog 100 #[.slice a n cap, .func (.func 82) #[] #[.pointer (some ⟨g, 0, none⟩)]] w fun e w' => e = .returned (.int .i64 (idxOf (fun x => x.1 == z) l)) ∧ Below w.heap.size w w' := by
  have hmax : n ≤ 9223372036854775807 := by have := RowAt.max h; omega
  have H := Lib.hid h
  have Hn := Lib.hid hn
  obtain ⟨q, hq⟩ : ∃ q, q = idxOf (fun x : Int × Int => x.1 == z) l := ⟨_, rfl⟩
  rw [← hq]
  have Hq : Hid (q = idxFrom (fun x : Int × Int => x.1 == z) l 0) := Lib.hid hq
  have Hc := Lib.hid hc
  clear h hn hq hc
  go_enter Try.func100, Try.ntmps100
  go_wp2
  go_loopw [8] (fun i wr => ∃ k : Nat, k ≤ n ∧ i = .int .i64 k ∧ Below w.heap.size w wr ∧ Hid (q = idxFrom (fun x : Int × Int => x.1 == z) l k)) (fun i _ => n - (intOf i).toNat)
  case atStart => exact ⟨0, by omega, rfl, Below.refl _ _, Hq⟩
  case round =>
    obtain ⟨k, hk, rfl, hb, Hk⟩ := hrel
    by_cases hlt : k < n
    · obtain ⟨⟨x, y⟩, ht⟩ := at_lt (l := l) (k := k) (by rw [← Hn.out]; exact hlt)
      have hlti : (k : Int) < (n : Int) := by omega
      obtain ⟨b, off, rfl, hbw, e0, e1⟩ := (H.out.below hb).at_ ht
      have hgc : wr.cell? ⟨g, 0, none⟩ = some (.int .i64 z) := (below_cells hb g 0 hg).trans Hc.out
      have hgw : g < wr.heap.size := Nat.lt_of_lt_of_le hg hb.size
      have Ht := Lib.hid ht
      have Hb := Lib.hid hb
      clear ht hb
      cases hf : (x == z) with
      | true =>
        have Hr : Hid (q = (k : Int)) := Lib.hid (by rw [Hk.out]; exact idxFrom_yes Ht.out hf)
        have HF := Lib.hid hf
        clear hf
        go_wp2_with (go_at_call 82; refine (arcIs_any _ _ _ _ _ hgw hgc).mono ?_; rintro e w' ⟨rfl, hb'⟩; have HB := Lib.hid hb'; clear hb'; rw [HF.out])
        go_ret
        exact ⟨by rw [Hr.out]; rfl, Hb.out.trans (HB.out.mono Hb.out.size)⟩
      | false =>
        have Hr : Hid (q = idxFrom (fun x : Int × Int => x.1 == z) l (k + 1)) := Lib.hid (by rw [Hk.out]; exact idxFrom_no Ht.out hf)
        have HF := Lib.hid hf
        clear hf
        go_wp2_with (go_at_call 82; refine (arcIs_any _ _ _ _ _ hgw hgc).mono ?_; rintro e w' ⟨rfl, hb'⟩; have HB := Lib.hid hb'; clear hb'; rw [HF.out])
        go_roundw
        case rel => exact ⟨k + 1, by omega, by go_num, Hb.out.trans (HB.out.mono Hb.out.size), Hr⟩
        case measure => simp [intOf]; omega
    · have hge : ¬ (k : Int) < (n : Int) := by omega
      have Hr : Hid (q = -1) := Lib.hid (by rw [Hk.out]; exact idxFrom_end _ _ _ (by rw [← Hn.out]; omega))
      have Hb := Lib.hid hb
      clear hb
      go_wp2
      go_ret
      exact ⟨by rw [Hr.out]; rfl, Hb.out⟩

set_option maxRecDepth 100000 in
theorem conArc_any {w : World} {l : List (Int × Int)} {a : Option Addr} {n cap g : Nat} {z : Int} (hn : n = l.length) (h : ArcsAt w (.slice a n cap) l) (hg : g < w.heap.size) (hgc : w.cell? ⟨g, 0, none⟩ = some (.int .i64 z)) :
    Calls Try.prog 81 #[.slice a n cap, .func (.func 82) #[] #[.pointer (some ⟨g, 0, none⟩)]] w fun e w' => e = .returned (.bool (hasP l z)) ∧ Below w.heap.size w w' := by
  have hc := idxArc_any hn h hg hgc
  have h1 : hasP l z = true → 0 ≤ idxOf (fun x : Int × Int => x.1 == z) l := fun e => idxOf_yes e
  have h2 : hasP l z = false → idxOf (fun x : Int × Int => x.1 == z) l = -1 := fun e => idxOf_no e
  clear h hn hgc
  revert hc h1 h2
  generalize hasP l z = p
  generalize idxOf (fun x : Int × Int => x.1 == z) l = q
  intro hc h1 h2
  replace hc := Lib.hid hc
  replace h1 := Lib.hid h1
  replace h2 := Lib.hid h2
  cases p with
  | true =>
    have g : 0 ≤ q := h1.out rfl
    go_enter Try.func81, Try.ntmps81
    go_wp2_with fail
    refine hc.out.mono ?_
    rintro e w' ⟨rfl, hb⟩
    go_wp2
    go_ret
    exact ⟨rfl, hb⟩
  | false =>
    obtain rfl : q = -1 := h2.out rfl
    go_enter Try.func81, Try.ntmps81
    go_wp2_with fail
    refine hc.out.mono ?_
    rintro e w' ⟨rfl, hb⟩
    go_wp2
    go_ret
    exact ⟨rfl, hb⟩

theorem arcs_take (l : List (Int × Int)) (k : Nat) : (l.flatMap arcL).take (k * 2) = (l.take k).flatMap arcL := by
  induction l generalizing k with
  | nil => simp
  | cons s l ih =>
    cases k with
    | zero => simp
    | succ k => rw [Nat.succ_mul]; simp [arcL, ih]

theorem ArcsAt.take {w : World} {l : List (Int × Int)} {a : Option Addr} {cap : Nat} (h : ArcsAt w (.slice a l.length cap) l) (k : Nat) (hk : k ≤ l.length) : ArcsAt w (.slice a k cap) (l.take k) := by
  have e : (l.take k).length = k := by rw [List.length_take]; omega
  have := RowAt.take h k hk
  rw [arcs_take] at this
  unfold ArcsAt
  rw [e]
  exact this

set_option maxRecDepth 100000 in
theorem occurs_any {w : World} {l : List (Int × Int)} {a : Option Addr} {n cap g k : Nat} {z : Int} (hn : n = l.length) (h : ArcsAt w (.slice a n cap) l) (hk : k ≤ n) (hg : g < w.heap.size) (hgc : w.cell? ⟨g, 0, none⟩ = some (.slice a n cap)) :
    Calls Try.prog 80 #[.int .i64 z, .int .i64 k, .pointer (some ⟨g, 0, none⟩)] w fun e w' => e = .returned (.bool (hasP (l.take k) z)) ∧ Below w.heap.size w w' := by
  have hb0 : Below w.heap.size w (w.alloc (.cells #[.int .i64 z] 3)) := (Below.refl _ _).alloc (Nat.le_refl _) _
  have hcap : n ≤ cap := by obtain ⟨_, a', c', e, e1, _⟩ := h; injection e with _ _ e3; omega
  have hc := conArc_any (w := w.alloc (.cells #[.int .i64 z] 3)) (l := l.take k) (n := k) (cap := cap) (a := a) (g := w.heap.size) (z := z) (by rw [List.length_take]; omega)
    (ArcsAt.take (hn ▸ ArcsAt.below h hb0) k (by omega)) (by simp) (by go_simp)
  have hkc : (k : Int) ≤ (cap : Int) := by omega
  have Hc := Lib.hid hc
  clear h hc hn hb0
  go_enter Try.func80, Try.ntmps80
  go_wp2_with fail
  refine Hc.out.mono ?_
  rintro e w' ⟨rfl, hb⟩
  go_wp2
  go_ret
  exact ⟨rfl, ((Below.refl _ _).alloc (Nat.le_refl _) _).trans (hb.mono (by simp))⟩

/-- lists of arcs, whose slices lie one behind the other -/
def LsAt (w : World) (r : Nat) (ls : List (List (Int × Int))) : Prop :=
  r < w.heap.size ∧ ∀ k l, ls[k]? = some l → ∃ a c, w.cell? ⟨r, k, none⟩ = some (.slice a l.length c) ∧ ArcsAt w (.slice a l.length c) l

theorem LsAt.below {w w' : World} {r : Nat} {ls : List (List (Int × Int))} (h : LsAt w r ls) (hb : Below w.heap.size w w') : LsAt w' r ls :=
  ⟨Nat.lt_of_lt_of_le h.1 hb.size, fun k l hk => by
    obtain ⟨a, c, h1, h2⟩ := h.2 k l hk
    exact ⟨a, c, (below_cells hb r k h.1).trans h1, h2.below hb⟩⟩

theorem numB_yes {lo n : Int} (h : numB lo n = true) : lo ≤ n ∧ n ≤ 1000000 := by simpa [numB] using h
theorem inP_yes {P x : Int} (h : inP P x = true) : 0 ≤ x ∧ x < P := by simpa [inP] using h

set_option maxRecDepth 100000 in
set_option maxHeartbeats 4000000 in
theorem checkArcs_any {w : World} {r m cap : Nat} {ls : List (List (Int × Int))} {P : Int} (hm : m = ls.length) (hmm : m ≤ 1000000) (h : LsAt w r ls) :
    Calls Try.prog 58 #[.int .i64 P, .slice (some ⟨r, 0, none⟩) m cap] w fun e w' => e = .returned (.int .i64 (listsErr P ls)) ∧ Below w.heap.size w w' := by
  have H := Lib.hid h
  have Hm := Lib.hid hm
  obtain ⟨q, hq⟩ : ∃ q, q = listsErr P ls := ⟨_, rfl⟩
  rw [← hq]
  have Hq : Hid (q = listsFrom P ls 0) := Lib.hid (by rw [listsFrom_zero]; exact hq)
  clear h hm hq
  go_enter Try.func58, Try.ntmps58
  go_wp2
  go_loopw [12] (fun i wr => ∃ k : Nat, k ≤ m ∧ i = .int .i64 k ∧ Below w.heap.size w wr ∧ Hid (q = listsFrom P ls k)) (fun i _ => m - (intOf i).toNat)
  case atStart => exact ⟨0, by omega, rfl, Below.refl _ _, Hq⟩
  case round =>
    rename World => v0
    obtain ⟨k, hk, rfl, hb, Hk⟩ := hrel
    by_cases hlt : k < m
    · obtain ⟨l, hl⟩ := at_lt (l := ls) (k := k) (by rw [← Hm.out]; exact hlt)
      have hlti : (k : Int) < (m : Int) := by omega
      obtain ⟨a, c, e0, hA⟩ := (H.out.below hb).2 k l hl
      have hrw : r < v0.heap.size := (H.out.below hb).1
      have Hstep := Lib.hid (listsFrom_step (P := P) hl)
      have Hb := Lib.hid hb
      obtain ⟨n, hn⟩ : ∃ n, n = l.length := ⟨_, rfl⟩
      have hmax : n ≤ 9223372036854775807 := by have := RowAt.max hA; omega
      rw [← hn] at e0 hA
      have Hn := Lib.hid hn
      have HA := Lib.hid hA
      obtain ⟨e, he⟩ : ∃ e, e = arcsErr P [] l := ⟨_, rfl⟩
      rw [← he] at Hstep
      have He : Hid (e = arcsFrom P l 0) := Lib.hid (by rw [arcsFrom_zero]; exact he)
      clear hl hb hn hA he
      go_wp2
      go_loopw [19] (fun i wr => ∃ j : Nat, j ≤ n ∧ i = .int .i64 j ∧ Below (v0.heap.size + 1) (v0.alloc (.cells #[.slice a n c] 44)) wr ∧ Hid (e = arcsFrom P l j)) (fun i _ => n - (intOf i).toNat)
      case atStart => exact ⟨0, by omega, rfl, Below.refl _ _, He⟩
      case round =>
        obtain ⟨j, hj, rfl, hbj, Hj⟩ := hrel
        have hb0 : Below v0.heap.size v0 wr := ((Below.refl _ v0).alloc (Nat.le_refl _) _).trans (hbj.mono (by omega))
        have hbox : wr.cell? ⟨v0.heap.size, 0, none⟩ = some (.slice a n c) := (hbj.cell (p := ⟨v0.heap.size, 0, none⟩) (by simp)).trans (by go_simp)
        have hbs : v0.heap.size < wr.heap.size := by have := hbj.size; simp at this; omega
        have Hw : Hid (Below w.heap.size w wr) := Lib.hid (Hb.out.trans (hb0.mono Hb.out.size))
        have Hbj := Lib.hid hbj
        by_cases hjl : j < n
        · obtain ⟨⟨x, y⟩, hx⟩ := at_lt (l := l) (k := j) (by rw [← Hn.out]; exact hjl)
          have hjli : (j : Int) < (n : Int) := by omega
          have HA2 := Lib.hid (ArcsAt.below HA.out hb0)
          obtain ⟨b, off, rfl, hbw, f0, f1⟩ := ArcsAt.at_ HA2.out hx
          have Hs := Lib.hid (arcsFrom_step (P := P) hx)
          clear hx hbj hb0
          cases g1 : numB 1 y with
          | false =>
            have Hr : Hid (q = 3) := Lib.hid (by
              have e3 : e = 3 := by rw [Hj.out, Hs.out, if_pos g1]
              rw [Hk.out, Hstep.out, e3]; rfl)
            have G1 := Lib.hid g1
            clear g1
            go_wp2_with (go_at_call 57; refine (bounds_any _ _ _).mono ?_; rintro e w' ⟨rfl, rfl⟩; rw [G1.out])
            go_ret
            exact ⟨by rw [Hr.out]; rfl, Hw.out.alloc (by have := Hw.out.size; omega) _⟩
          | true =>
            have Hs2 : Hid (arcsFrom P l j = if inP P x = false then 2 else if hasP (l.take j) x = true then 1 else arcsFrom P l (j + 1)) := Lib.hid (by rw [Hs.out, if_neg (by rw [g1]; simp)])
            have G1 := Lib.hid g1
            clear g1
            by_cases hx0 : x < 0
            · have Hr : Hid (q = 2) := Lib.hid (by
                have e3 : e = 2 := by rw [Hj.out, Hs2.out, if_pos (by simp [inP]; omega)]
                rw [Hk.out, Hstep.out, e3]; rfl)
              go_wp2_with (go_at_call 57; refine (bounds_any _ _ _).mono ?_; rintro e w' ⟨rfl, rfl⟩; rw [G1.out])
              go_ret
              exact ⟨by rw [Hr.out]; rfl, Hw.out.alloc (by have := Hw.out.size; omega) _⟩
            · have hx0b : decide (x < 0) = false := decide_eq_false hx0
              by_cases hxP : P ≤ x
              · have Hr : Hid (q = 2) := Lib.hid (by
                  have e3 : e = 2 := by rw [Hj.out, Hs2.out, if_pos (by simp [inP]; omega)]
                  rw [Hk.out, Hstep.out, e3]; rfl)
                go_wp2_with (go_at_call 57; refine (bounds_any _ _ _).mono ?_; rintro e w' ⟨rfl, rfl⟩; rw [G1.out])
                go_ret
                exact ⟨by rw [Hr.out]; rfl, Hw.out.alloc (by have := Hw.out.size; omega) _⟩
              · have hxPb : decide (P ≤ x) = false := decide_eq_false hxP
                have Hs3 : Hid (arcsFrom P l j = if hasP (l.take j) x = true then 1 else arcsFrom P l (j + 1)) := Lib.hid (by rw [Hs2.out, if_neg (by simp [inP]; omega)])
                have Hoc := Lib.hid (occurs_any (w := wr.alloc (.cells #[.int .i64 x, .int .i64 y] 52)) (g := v0.heap.size) (k := j) (z := x) Hn.out (ArcsAt.below HA2.out ((Below.refl _ _).alloc (Nat.le_refl _) _)) hj (by simp; omega) (by go_simp))
                cases g3 : hasP (l.take j) x with
                | true =>
                  have Hr : Hid (q = 1) := Lib.hid (by
                    have e3 : e = 1 := by rw [Hj.out, Hs3.out, if_pos g3]
                    rw [Hk.out, Hstep.out, e3]; rfl)
                  have G3 := Lib.hid g3
                  clear g3
                  go_wp2_with (first | (go_at_call 57; refine (bounds_any _ _ _).mono ?_; rintro e w' ⟨rfl, rfl⟩; rw [G1.out]) | (go_at_call 80; refine Hoc.out.mono ?_; rintro e w' ⟨rfl, hb'⟩; have HB := Lib.hid hb'; clear hb'; rw [G3.out]))
                  go_ret
                  exact ⟨by rw [Hr.out]; rfl, (Hw.out.alloc (by have := Hw.out.size; omega) _).trans (HB.out.mono (by have := Hw.out.size; simp; omega))⟩
                | false =>
                  have Hr : Hid (e = arcsFrom P l (j + 1)) := Lib.hid (by rw [Hj.out, Hs3.out, if_neg (by rw [g3]; simp)])
                  have G3 := Lib.hid g3
                  clear g3
                  go_wp2_with (first | (go_at_call 57; refine (bounds_any _ _ _).mono ?_; rintro e w' ⟨rfl, rfl⟩; rw [G1.out]) | (go_at_call 80; refine Hoc.out.mono ?_; rintro e w' ⟨rfl, hb'⟩; have HB := Lib.hid hb'; clear hb'; rw [G3.out]))
                  go_roundw
                  case rel => exact ⟨j + 1, by omega, by go_num, (Hbj.out.alloc (by have := Hbj.out.size; simp at this; omega) _).trans (HB.out.mono (by have := Hbj.out.size; simp at this ⊢; omega)), Hr⟩
                  case measure => simp [intOf]; omega
        · have hge : ¬ (j : Int) < (n : Int) := by omega
          have Hr : Hid (q = listsFrom P ls (k + 1)) := Lib.hid (by
            have e0 : e = 0 := by rw [Hj.out]; exact arcsFrom_end _ _ (by rw [← Hn.out]; omega)
            rw [Hk.out, Hstep.out, if_pos e0])
          clear hbj hb0
          go_wp2
          go_roundw
          case rel => exact ⟨k + 1, by omega, by go_num, Hw.out, Hr⟩
          case measure => simp [intOf]; omega
    · have hge : ¬ (k : Int) < (m : Int) := by omega
      have Hr : Hid (q = 0) := Lib.hid (by rw [Hk.out]; exact listsFrom_end _ _ (by rw [← Hm.out]; omega))
      have Hb := Lib.hid hb
      clear hb
      go_wp2
      go_ret
      exact ⟨by rw [Hr.out]; rfl, Hb.out⟩
end Go.Proofs.Ytpfdmmidomofdaa
