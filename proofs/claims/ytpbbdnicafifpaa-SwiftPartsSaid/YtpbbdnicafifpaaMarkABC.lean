/-
  What mark's May comes to, and the document's own: is each place of In full enough, and none of Not too full? What mark's Ahead and Best come to, and the document's own May and Best: of those that may fire the one ahead of all others. What mark's Best comes to, and the document's own.
  Conditions: none beyond each theorem's own.
-/
import Derived.Test.YtpbbdnicafifpaaNetW
import Derived.Deep.QuietTactic
import Derived.BigQuiet
/-! ## MarkA -/
namespace Go.Proofs.Ytpbbdnicafifpaa
open Go.RowKit
set_option linter.unusedVariables false

/-- a slice of ints that can be read -/
def intL (k : Int) : List Value := [.int .i64 k]
theorem intL_len (k : Int) : (intL k).length = 1 := rfl
def IntsAt (w : World) (v : Value) (l : List Int) : Prop := RowAt 1 w v l.length (l.flatMap intL)
theorem IntsAt.below {w w' : World} {v : Value} {l : List Int} (h : IntsAt w v l) (hb : Below w.heap.size w w') : IntsAt w' v l := RowAt.below h hb
theorem IntsAt.at_ {w : World} {l : List Int} {a : Option Addr} {n cap : Nat} (h : IntsAt w (.slice a n cap) l) {i : Nat} {x : Int} (hi : l[i]? = some x) :
    ∃ b off, a = some ⟨b, off, none⟩ ∧ b < w.heap.size ∧ w.cell? ⟨b, off + i, none⟩ = some (.int .i64 x) := by
  obtain ⟨b, off, e, hb, hc⟩ := RowAt.elem intL_len h hi
  exact ⟨b, off, e, hb, by have := hc 0 _ rfl; simpa using this⟩

/-- the tokens of a place -/
def getI (m : List Int) (p : Int) : Int := m.getD p.toNat 0
/-- all arcs go to places that are -/
def Fits (n : Nat) (l : List (Int × Int)) : Prop := ∀ a ∈ l, 0 ≤ a.1 ∧ a.1 < n
def shortA (m : List Int) (a : Int × Int) : Bool := decide (getI m a.1 < a.2)
def fullA (m : List Int) (a : Int × Int) : Bool := decide (a.2 ≤ getI m a.1)
/-- may a transition with these lists fire? -/
def mayB (m : List Int) (li ln : List (Int × Int)) : Bool := !(li.any (shortA m)) && !(ln.any (fullA m))

theorem Fits.at_ {m : List Int} {l : List (Int × Int)} (h : Fits m.length l) {k : Nat} {x y : Int} (hk : l[k]? = some (x, y)) : ∃ p : Nat, x = p ∧ p < m.length ∧ ∃ z, m[p]? = some z ∧ getI m x = z := by
  obtain ⟨h1, h2⟩ := h _ (List.mem_of_getElem? hk)
  simp only at h1 h2
  refine ⟨x.toNat, by omega, by omega, m.getD x.toNat 0, ?_, rfl⟩
  have : x.toNat < m.length := by omega
  simp [List.getD, this]

theorem hasInt_any (a : Option Addr) (n cap k : Nat) (hk : k < n) (w : World) : Calls Try.prog 109 #[.slice a n cap, .int .i64 k] w fun e w' => e = .returned (.bool true) ∧ w = w' := by
  have h1 : (0 : Int) ≤ (k : Int) := by omega
  have h2 : (k : Int) < (n : Int) := by omega
  go_enter Try.func109, Try.ntmps109
  go_wp2
  go_ret
  exact ⟨rfl, rfl⟩

theorem hasInt_new (a : Option Addr) (n cap k : Nat) (hk : k < n) (w : World) : Calls Try.prog 109 #[.slice a n cap, .int .i64 k] w fun e w' => e = .returned (.bool true) ∧ Below w.heap.size w w' :=
  (hasInt_any a n cap k hk w).mono fun _ _ h => ⟨h.1, h.2 ▸ Below.refl _ _⟩

theorem hasInt_same (a : Option Addr) (n cap k : Nat) (hk : k < n) (w : World) : Calls Try.prog 109 #[.slice a n cap, .int .i64 k] w fun e w' => e = .returned (.bool true) ∧ w' = w :=
  (hasInt_any a n cap k hk w).mono fun _ _ h => ⟨h.1, h.2.symm⟩

theorem drewNb (w : World) (k : Nat) : Below w.heap.size w (w.drewN k) := ⟨rfl, rfl, rfl, Nat.le_refl _, fun _ _ => rfl⟩

/-- a transition's box, and what has come since -/
structure InTr (w wr : World) (v : Value) : Prop where
  below : ∃ cs, v = .agg cs ∧ Below (w.heap.size + 1) (w.alloc (.cells cs 79)) wr

theorem InTr.start (w : World) (cs : Array Value) : InTr w (w.alloc (.cells cs 79)) (.agg cs) := ⟨cs, rfl, Below.refl _ _⟩
theorem InTr.old {w wr : World} {v : Value} (h : InTr w wr v) : Below w.heap.size w wr := by
  obtain ⟨cs, rfl, g⟩ := h.below
  exact ((Below.refl _ w).alloc (Nat.le_refl _) _).trans (g.mono (by omega))
theorem InTr.size {w wr : World} {v : Value} (h : InTr w wr v) : w.heap.size < wr.heap.size := by
  obtain ⟨cs, rfl, g⟩ := h.below
  have := g.size; simp at this; omega
theorem InTr.go {w wr w' : World} {v : Value} (h : InTr w wr v) (hb : Below wr.heap.size wr w') : InTr w w' v := by
  obtain ⟨cs, rfl, g⟩ := h.below
  exact ⟨cs, rfl, g.trans (hb.mono (by have := g.size; simp at this; omega))⟩
theorem InTr.cell {w wr : World} {cs : Array Value} (h : InTr w wr (.agg cs)) (j : Nat) {x : Value} (hj : cs[j]? = some x) : wr.cell? ⟨w.heap.size, j, none⟩ = some x := by
  obtain ⟨cs', e, g⟩ := h.below
  injection e with e
  subst e
  refine (g.cell (p := ⟨w.heap.size, j, none⟩) (by simp)).trans ?_
  rw [cell_of_row _ _ j _ _ (0, 0) (heap_alloc_new w (.cells cs 79)), hj]

set_option maxRecDepth 100000 in
set_option maxHeartbeats 4000000 in
theorem may_any {w : World} {s : ByteArray} {d p : Int} {a1 a2 a3 am : Option Addr} {n1 n2 n3 c1 c2 c3 nm cm : Nat} {m : List Int} {li ln : List (Int × Int)} (h1 : n1 = li.length) (h2 : n2 = ln.length) (hm : nm = m.length)
    (hI : ArcsAt w (.slice a1 n1 c1) li) (hN : ArcsAt w (.slice a2 n2 c2) ln) (hM : IntsAt w (.slice am nm cm) m) (fI : Fits m.length li) (fN : Fits m.length ln) (q : Bool) (hq : q = mayB m li ln) :
    Calls Try.prog 86 #[trV s d p a1 n1 c1 a2 n2 c2 a3 n3 c3, .slice am nm cm] w fun e w' => e = .returned (.bool q) ∧ Below w.heap.size w w' := by
  have hx1 : n1 ≤ 9223372036854775807 := by have := RowAt.max hI; omega
  have hx2 : n2 ≤ 9223372036854775807 := by have := RowAt.max hN; omega
  have H1 := Lib.hid h1
  have H2 := Lib.hid h2
  have Hm := Lib.hid hm
  have HI := Lib.hid hI
  have HN := Lib.hid hN
  have HM := Lib.hid hM
  have FI := Lib.hid fI
  have FN := Lib.hid fN
  have HQ := Lib.hid hq
  clear h1 h2 hm hI hN hM fI fN hq
  go_enter Try.func86, Try.ntmps86
  go_wp2
  go_loopw [12] (fun i wr => ∃ k : Nat, k ≤ n1 ∧ i = .int .i64 k ∧ InTr w wr (trV s d p a1 n1 c1 a2 n2 c2 a3 n3 c3) ∧ Hid (li.any (shortA m) = anyFrom (shortA m) li k)) (fun i _ => n1 - (intOf i).toNat)
  case atStart => exact ⟨0, by omega, rfl, InTr.start _ _, Lib.hid (by rw [anyFrom_zero])⟩
  case round =>
    rename World => v1
    obtain ⟨k, hk, rfl, hin, Hk⟩ := hrel
    by_cases hlt : k < n1
    · obtain ⟨⟨x, y⟩, hx⟩ := at_lt (l := li) (k := k) (by rw [← H1.out]; exact hlt)
      have hlti : (k : Int) < (n1 : Int) := by omega
      obtain ⟨b, off, rfl, hbw, e0, e1⟩ := (HI.out.below hin.old).at_ hx
      obtain ⟨p, rfl, hp, z, hz, hg⟩ := FI.out.at_ hx
      obtain ⟨bm, om, rfl, hbm, em⟩ := (HM.out.below hin.old).at_ hz
      have hpn : p < nm := by rw [Hm.out]; exact hp
      have hpi : (p : Int) < (nm : Int) := by omega
      have Hin := Lib.hid (hin.go ((Below.refl _ _).alloc (Nat.le_refl _) (.cells #[.int .i64 (p : Int), .int .i64 y] 76)))
      have Hyes : Hid (z < y → q = false) := Lib.hid (fun e => by
        rw [HQ.out]; unfold mayB
        rw [Hk.out, anyFrom_yes hx (by unfold shortA; simp [hg, e])]; rfl)
      have Hno : Hid (¬ z < y → li.any (shortA m) = anyFrom (shortA m) li (k + 1)) := Lib.hid (fun e => by rw [Hk.out]; exact anyFrom_no hx (by unfold shortA; simp [hg]; omega))
      clear hx hz hg hin hp
      by_cases g : z < y
      · obtain rfl : q = false := Hyes.out g
        go_wp2
        go_quiet (first | (go_at_call 109; exact Calls.quiet_of_same (hasInt_same _ _ _ _ hpn _)))
        go_wp2
        go_ret
        exact ⟨rfl, (Hin.out.go (drewNb _ _)).old⟩
      · have gb : decide (z < y) = false := decide_eq_false g
        have Hr := Lib.hid (Hno.out g)
        go_wp2
        go_quiet (first | (go_at_call 109; exact Calls.quiet_of_same (hasInt_same _ _ _ _ hpn _)))
        go_wp2
        go_roundw
        case rel => exact ⟨k + 1, by omega, by go_num, Hin.out.go (drewNb _ _), Hr⟩
        case measure => simp [intOf]; omega
    · have hge : ¬ (k : Int) < (n1 : Int) := by omega
      have HQ2 : Hid (q = !(ln.any (fullA m))) := Lib.hid (by
        rw [HQ.out]; unfold mayB
        rw [Hk.out, anyFrom_end _ _ _ (by rw [← H1.out]; omega)]; rfl)
      have hc4 := hin.cell 4 rfl
      have Hi := Lib.hid hin
      clear hin
      go_wp2
      clear hc4
      go_loopw [35] (fun i wr => ∃ k : Nat, k ≤ n2 ∧ i = .int .i64 k ∧ InTr w wr (trV s d p a1 n1 c1 a2 n2 c2 a3 n3 c3) ∧ Hid (ln.any (fullA m) = anyFrom (fullA m) ln k)) (fun i _ => n2 - (intOf i).toNat)
      case atStart => exact ⟨0, by omega, rfl, Hi.out, Lib.hid (by rw [anyFrom_zero])⟩
      case round =>
        rename World => v2
        obtain ⟨k, hk, rfl, hin, Hk⟩ := hrel
        by_cases hlt : k < n2
        · obtain ⟨⟨x, y⟩, hx⟩ := at_lt (l := ln) (k := k) (by rw [← H2.out]; exact hlt)
          have hlti : (k : Int) < (n2 : Int) := by omega
          obtain ⟨b, off, rfl, hbw, e0, e1⟩ := (HN.out.below hin.old).at_ hx
          obtain ⟨p, rfl, hp, z, hz, hg⟩ := FN.out.at_ hx
          obtain ⟨bm, om, rfl, hbm, em⟩ := (HM.out.below hin.old).at_ hz
          have hpn : p < nm := by rw [Hm.out]; exact hp
          have hpi : (p : Int) < (nm : Int) := by omega
          have Hin := Lib.hid (hin.go ((Below.refl _ _).alloc (Nat.le_refl _) (.cells #[.int .i64 (p : Int), .int .i64 y] 76)))
          have Hyes : Hid (y ≤ z → q = false) := Lib.hid (fun e => by
            rw [HQ2.out, Hk.out, anyFrom_yes hx (by unfold fullA; simp [hg, e])]; rfl)
          have Hno : Hid (¬ y ≤ z → ln.any (fullA m) = anyFrom (fullA m) ln (k + 1)) := Lib.hid (fun e => by rw [Hk.out]; exact anyFrom_no hx (by unfold fullA; simp [hg]; omega))
          clear hx hz hg hin hp
          by_cases g : y ≤ z
          · obtain rfl : q = false := Hyes.out g
            go_wp2
            go_quiet (first | (go_at_call 109; exact Calls.quiet_of_same (hasInt_same _ _ _ _ hpn _)))
            go_wp2
            go_ret
            exact ⟨rfl, (Hin.out.go (drewNb _ _)).old⟩
          · have gb : decide (y ≤ z) = false := decide_eq_false g
            have Hr := Lib.hid (Hno.out g)
            go_wp2
            go_quiet (first | (go_at_call 109; exact Calls.quiet_of_same (hasInt_same _ _ _ _ hpn _)))
            go_wp2
            go_roundw
            case rel => exact ⟨k + 1, by omega, by go_num, Hin.out.go (drewNb _ _), Hr⟩
            case measure => simp [intOf]; omega
        · have hge : ¬ (k : Int) < (n2 : Int) := by omega
          obtain rfl : q = true := by rw [HQ2.out, Hk.out, anyFrom_end _ _ _ (by rw [← H2.out]; omega)]; rfl
          have Hi := Lib.hid hin
          clear hin
          go_wp2
          go_ret
          exact ⟨rfl, Hi.out.old⟩
end Go.Proofs.Ytpbbdnicafifpaa

/-! ## MarkB -/
namespace Go.Proofs.Ytpbbdnicafifpaa
open Go.RowKit
set_option linter.unusedVariables false

/-- a transition's box: its cells -/
theorem InTr.c3 {w wr : World} {v0 v1 v2 v3 v4 v5 : Value} (h : InTr w wr (.agg #[v0, v1, v2, v3, v4, v5])) : wr.cell? ⟨w.heap.size, 3, none⟩ = some v3 := h.cell 3 rfl
theorem InTr.c4 {w wr : World} {v0 v1 v2 v3 v4 v5 : Value} (h : InTr w wr (.agg #[v0, v1, v2, v3, v4, v5])) : wr.cell? ⟨w.heap.size, 4, none⟩ = some v4 := h.cell 4 rfl

set_option maxRecDepth 100000 in
set_option maxHeartbeats 4000000 in
theorem rmay_any {w : World} {s : ByteArray} {d p : Int} {a1 a2 a3 am : Option Addr} {n1 n2 n3 c1 c2 c3 nm cm : Nat} {m : List Int} {li ln : List (Int × Int)} (h1 : n1 = li.length) (h2 : n2 = ln.length) (hm : nm = m.length)
    (hI : ArcsAt w (.slice a1 n1 c1) li) (hN : ArcsAt w (.slice a2 n2 c2) ln) (hM : IntsAt w (.slice am nm cm) m) (fI : Fits m.length li) (fN : Fits m.length ln) (q : Bool) (hq : q = mayB m li ln) :
    Calls Try.prog 92 #[trV s d p a1 n1 c1 a2 n2 c2 a3 n3 c3, .slice am nm cm] w fun e w' => e = .returned (.bool q) ∧ Below w.heap.size w w' := by
  have hx1 : n1 ≤ 9223372036854775807 := by have := RowAt.max hI; omega
  have hx2 : n2 ≤ 9223372036854775807 := by have := RowAt.max hN; omega
  have H1 := Lib.hid h1
  have H2 := Lib.hid h2
  have Hm := Lib.hid hm
  have HI := Lib.hid hI
  have HN := Lib.hid hN
  have HM := Lib.hid hM
  have FI := Lib.hid fI
  have FN := Lib.hid fN
  have HQ := Lib.hid hq
  clear h1 h2 hm hI hN hM fI fN hq
  go_enter Try.func92, Try.ntmps92
  go_wp2
  go_loopw [5] (fun i wr => ∃ k : Nat, k ≤ n1 ∧ i = .int .i64 k ∧ InTr w wr (trV s d p a1 n1 c1 a2 n2 c2 a3 n3 c3) ∧ Hid (li.any (shortA m) = anyFrom (shortA m) li k)) (fun i _ => n1 - (intOf i).toNat)
  case atStart => exact ⟨0, by omega, rfl, InTr.start _ _, Lib.hid (by rw [anyFrom_zero])⟩
  case round =>
    rename World => v1
    obtain ⟨k, hk, rfl, hin, Hk⟩ := hrel
    have hc3 := hin.c3
    by_cases hlt : k < n1
    · obtain ⟨⟨x, y⟩, hx⟩ := at_lt (l := li) (k := k) (by rw [← H1.out]; exact hlt)
      have hlti : (k : Int) < (n1 : Int) := by omega
      obtain ⟨b, off, rfl, hbw, e0, e1⟩ := (HI.out.below hin.old).at_ hx
      obtain ⟨p, rfl, hp, z, hz, hg⟩ := FI.out.at_ hx
      obtain ⟨bm, om, rfl, hbm, em⟩ := (HM.out.below hin.old).at_ hz
      have hpn : p < nm := by rw [Hm.out]; exact hp
      have hpi : (p : Int) < (nm : Int) := by omega
      have Hin := Lib.hid hin
      have Hyes : Hid (z < y → q = false) := Lib.hid (fun e => by
        rw [HQ.out]; unfold mayB
        rw [Hk.out, anyFrom_yes hx (by unfold shortA; simp [hg, e])]; rfl)
      have Hno : Hid (¬ z < y → li.any (shortA m) = anyFrom (shortA m) li (k + 1)) := Lib.hid (fun e => by rw [Hk.out]; exact anyFrom_no hx (by unfold shortA; simp [hg]; omega))
      clear hx hz hg hin hp
      by_cases g : z < y
      · obtain rfl : q = false := Hyes.out g
        go_wp2
        go_quiet (fail)
        go_wp2
        go_ret
        exact ⟨rfl, (Hin.out.go (drewNb _ _)).old⟩
      · have gb : decide (z < y) = false := decide_eq_false g
        have Hr := Lib.hid (Hno.out g)
        go_wp2
        go_quiet (fail)
        go_wp2
        go_roundw
        case rel => exact ⟨k + 1, by omega, by go_num, Hin.out.go (drewNb _ _), Hr⟩
        case measure => simp [intOf]; omega
    · have hge : ¬ (k : Int) < (n1 : Int) := by omega
      have HQ2 : Hid (q = !(ln.any (fullA m))) := Lib.hid (by
        rw [HQ.out]; unfold mayB
        rw [Hk.out, anyFrom_end _ _ _ (by rw [← H1.out]; omega)]; rfl)
      have Hi := Lib.hid hin
      clear hin
      go_wp2
      clear hc3
      go_loopw [6] (fun i wr => ∃ k : Nat, k ≤ n2 ∧ i = .int .i64 k ∧ InTr w wr (trV s d p a1 n1 c1 a2 n2 c2 a3 n3 c3) ∧ Hid (ln.any (fullA m) = anyFrom (fullA m) ln k)) (fun i _ => n2 - (intOf i).toNat)
      case atStart => exact ⟨0, by omega, rfl, Hi.out, Lib.hid (by rw [anyFrom_zero])⟩
      case round =>
        rename World => v2
        obtain ⟨k, hk, rfl, hin, Hk⟩ := hrel
        have hc4 := hin.c4
        by_cases hlt : k < n2
        · obtain ⟨⟨x, y⟩, hx⟩ := at_lt (l := ln) (k := k) (by rw [← H2.out]; exact hlt)
          have hlti : (k : Int) < (n2 : Int) := by omega
          obtain ⟨b, off, rfl, hbw, e0, e1⟩ := (HN.out.below hin.old).at_ hx
          obtain ⟨p, rfl, hp, z, hz, hg⟩ := FN.out.at_ hx
          obtain ⟨bm, om, rfl, hbm, em⟩ := (HM.out.below hin.old).at_ hz
          have hpn : p < nm := by rw [Hm.out]; exact hp
          have hpi : (p : Int) < (nm : Int) := by omega
          have Hin := Lib.hid hin
          have Hyes : Hid (y ≤ z → q = false) := Lib.hid (fun e => by
            rw [HQ2.out, Hk.out, anyFrom_yes hx (by unfold fullA; simp [hg, e])]; rfl)
          have Hno : Hid (¬ y ≤ z → ln.any (fullA m) = anyFrom (fullA m) ln (k + 1)) := Lib.hid (fun e => by rw [Hk.out]; exact anyFrom_no hx (by unfold fullA; simp [hg]; omega))
          clear hx hz hg hin hp
          by_cases g : y ≤ z
          · obtain rfl : q = false := Hyes.out g
            go_wp2
            go_quiet (fail)
            go_wp2
            go_ret
            exact ⟨rfl, (Hin.out.go (drewNb _ _)).old⟩
          · have gb : decide (y ≤ z) = false := decide_eq_false g
            have Hr := Lib.hid (Hno.out g)
            go_wp2
            go_quiet (fail)
            go_wp2
            go_roundw
            case rel => exact ⟨k + 1, by omega, by go_num, Hin.out.go (drewNb _ _), Hr⟩
            case measure => simp [intOf]; omega
        · have hge : ¬ (k : Int) < (n2 : Int) := by omega
          obtain rfl : q = true := by rw [HQ2.out, Hk.out, anyFrom_end _ _ _ (by rw [← H2.out]; omega)]; rfl
          have Hi := Lib.hid hin
          clear hin
          go_wp2
          go_ret
          exact ⟨rfl, Hi.out.old⟩

theorem hasTr_any (a : Option Addr) (n cap k : Nat) (hk : k < n) (w : World) : Calls Try.prog 119 #[.slice a n cap, .int .i64 k] w fun e w' => e = .returned (.bool true) ∧ w = w' := by
  have h1 : (0 : Int) ≤ (k : Int) := by omega
  have h2 : (k : Int) < (n : Int) := by omega
  go_enter Try.func119, Try.ntmps119
  go_wp2
  go_ret
  exact ⟨rfl, rfl⟩

/-- is a ahead of b? -/
def aheadB (pa pb : Int) (a b : Nat) : Bool := decide (pa < pb) || (decide (pa = pb) && decide (a < b))

set_option maxRecDepth 100000 in
set_option maxHeartbeats 4000000 in
theorem ahead_any {w : World} {n : Nt} {ap at_ : Option Addr} {cp ct np nt : Nat} (hnt : nt = n.trans.length) (h : NetAt w (.slice ap np cp) (.slice at_ nt ct) n) {a b : Nat} {ta tb : Tr} (ha : n.trans[a]? = some ta) (hb : n.trans[b]? = some tb) (q : Bool) (hq : q = aheadB ta.prio tb.prio a b) :
    Calls Try.prog 116 #[.agg #[.slice ap np cp, .slice at_ nt ct], .int .i64 a, .int .i64 b] w fun e w' => e = .returned (.bool q) ∧ Below w.heap.size w w' := by
  have hla : a < nt := by rw [hnt]; exact lt_at ha
  have hlb : b < nt := by rw [hnt]; exact lt_at hb
  have hai : (a : Int) < (nt : Int) := by omega
  have hbi : (b : Int) < (nt : Int) := by omega
  obtain ⟨_, l, hl, ht⟩ := h
  obtain ⟨b1, off1, a1, c1, a2, c2, a3, c3, rfl, hbw, e0, e1, e2, e3, e4, e5, _, _, _⟩ := ht.at_ (i := a) (t := ta) (by rw [hl]; exact ha)
  obtain ⟨b2, off2, a1', c1', a2', c2', a3', c3', eq, hbw', f0, f1, f2, f3, f4, f5, _, _, _⟩ := ht.at_ (i := b) (t := tb) (by rw [hl]; exact hb)
  injection eq with eq
  injection eq with eq1 eq2 _
  subst eq1; subst eq2
  obtain ⟨pa, hpa⟩ : ∃ x, x = ta.prio := ⟨_, rfl⟩
  obtain ⟨pb, hpb⟩ : ∃ x, x = tb.prio := ⟨_, rfl⟩
  rw [← hpa] at e2 hq
  rw [← hpb] at f2 hq
  have Hb := Lib.hid ((Below.refl w.heap.size w).alloc (Nat.le_refl _) (.cells #[.slice ap np cp, .slice (some ⟨b1, off1, none⟩) nt ct] 31))
  clear hpa hpb hl ht ha hb hnt e0 e1 e3 e4 e5 f0 f1 f3 f4 f5
  unfold aheadB at hq
  by_cases g1 : pa < pb
  · obtain rfl : q = true := by rw [hq]; simp [g1]
    clear hq
    go_enter Try.func116, Try.ntmps116
    go_wp2_with (go_at_call 119; refine (hasTr_any _ _ _ _ (by assumption) _).mono ?_; rintro e w' ⟨rfl, rfl⟩)
    go_quiet (fail)
    go_wp2
    go_ret
    exact ⟨rfl, Hb.out.trans ((drewNb _ _).mono Hb.out.size)⟩
  have g1b : decide (pa < pb) = false := decide_eq_false g1
  by_cases g2 : pa = pb
  · subst g2
    have hq2 : q = decide (a < b) := by rw [hq]; simp
    clear hq
    by_cases g3 : a < b
    · have g3i : (a : Int) < (b : Int) := by omega
      obtain rfl : q = true := by rw [hq2]; simp [g3]
      clear hq2
      go_enter Try.func116, Try.ntmps116
      go_wp2_with (go_at_call 119; refine (hasTr_any _ _ _ _ (by assumption) _).mono ?_; rintro e w' ⟨rfl, rfl⟩)
      go_quiet (fail)
      go_wp2
      go_ret
      exact ⟨rfl, Hb.out.trans ((drewNb _ _).mono Hb.out.size)⟩
    · have g3b : decide ((a : Int) < (b : Int)) = false := decide_eq_false (by omega)
      obtain rfl : q = false := by rw [hq2]; simp [g3]
      clear hq2
      go_enter Try.func116, Try.ntmps116
      go_wp2_with (go_at_call 119; refine (hasTr_any _ _ _ _ (by assumption) _).mono ?_; rintro e w' ⟨rfl, rfl⟩)
      go_quiet (fail)
      go_wp2
      go_ret
      exact ⟨rfl, Hb.out.trans ((drewNb _ _).mono Hb.out.size)⟩
  · have g2b : decide (pa = pb) = false := decide_eq_false g2
    obtain rfl : q = false := by rw [hq]; simp [g1, g2]
    clear hq
    go_enter Try.func116, Try.ntmps116
    go_wp2_with (go_at_call 119; refine (hasTr_any _ _ _ _ (by assumption) _).mono ?_; rintro e w' ⟨rfl, rfl⟩)
    go_quiet (fail)
    go_wp2
    go_ret
    exact ⟨rfl, Hb.out.trans ((drewNb _ _).mono Hb.out.size)⟩
end Go.Proofs.Ytpbbdnicafifpaa

/-! ## MarkC -/
namespace Go.Proofs.Ytpbbdnicafifpaa
open Go.RowKit
set_option linter.unusedVariables false

/-- one transition looked at -/
def stepB (m : List Int) (ts : List Tr) (z : Int) (k : Nat) : Int :=
  match ts[k]? with
  | none => z
  | some t => if mayB m t.inn t.nt = true then (if z < 0 then (k : Int) else if t.prio < (ts.getD z.toNat t).prio then (k : Int) else z) else z
/-- which fires, of the first k -/
def bestTo (m : List Int) (ts : List Tr) : Nat → Int
  | 0 => -1
  | k + 1 => stepB m ts (bestTo m ts k) k

theorem bestTo_bd (m : List Int) (ts : List Tr) : ∀ k, -1 ≤ bestTo m ts k ∧ bestTo m ts k < k := by
  intro k
  induction k with
  | zero => simp [bestTo]
  | succ k ih =>
    unfold bestTo stepB
    split
    · omega
    · split
      · split
        · omega
        · split <;> omega
      · omega

theorem stepB_no {m : List Int} {ts : List Tr} {z : Int} {k : Nat} {t : Tr} (h : ts[k]? = some t) (hm : mayB m t.inn t.nt = false) : stepB m ts z k = z := by
  unfold stepB; rw [h]; simp [hm]
theorem stepB_first {m : List Int} {ts : List Tr} {z : Int} {k : Nat} {t : Tr} (h : ts[k]? = some t) (hm : mayB m t.inn t.nt = true) (hz : z < 0) : stepB m ts z k = k := by
  unfold stepB; rw [h]; simp [hm, hz]
theorem stepB_more {m : List Int} {ts : List Tr} {b : Nat} {k : Nat} {t u : Tr} (h : ts[k]? = some t) (hm : mayB m t.inn t.nt = true) (hb : ts[b]? = some u) : stepB m ts (b : Int) k = if t.prio < u.prio then (k : Int) else (b : Int) := by
  unfold stepB; rw [h]; simp [hm, hb, List.getD, show ¬ (b : Int) < 0 by omega]

/-- all lists of a net go to places that are marked -/
def FitsN (m : List Int) (n : Nt) : Prop := ∀ t ∈ n.trans, Fits m.length t.inn ∧ Fits m.length t.nt

set_option maxRecDepth 100000 in
set_option maxHeartbeats 4000000 in
theorem best_any {w : World} {n : Nt} {ap at_ am : Option Addr} {cp ct np nt nm cm : Nat} {m : List Int} (hnt : nt = n.trans.length) (hnm : nm = m.length) (h : NetAt w (.slice ap np cp) (.slice at_ nt ct) n) (hM : IntsAt w (.slice am nm cm) m) (hF : FitsN m n) (q : Int) (hq : q = bestTo m n.trans nt) :
    Calls Try.prog 104 #[.agg #[.slice ap np cp, .slice at_ nt ct], .slice am nm cm] w fun e w' => e = .returned (.int .i64 q) ∧ Below w.heap.size w w' := by
  have hah := fun (W : World) (hW : Below w.heap.size w W) (a b : Nat) (ta tb : Tr) (ha : n.trans[a]? = some ta) (hb : n.trans[b]? = some tb) (q : Bool) (hq : q = aheadB ta.prio tb.prio a b) => ahead_any hnt (h.below hW) ha hb q hq
  have Hah := Lib.hid hah
  obtain ⟨_, l, hl, ht⟩ := h
  have hmax : nt ≤ 9223372036854775807 := by have := RowAt.max ht.1; rw [hnt, ← hl, List.length_map]; exact this
  have Hnt := Lib.hid hnt
  have Hnm := Lib.hid hnm
  have Hl := Lib.hid hl
  have Ht := Lib.hid ht
  have HM := Lib.hid hM
  have HF := Lib.hid hF
  have HQ := Lib.hid hq
  clear hnt hnm hl ht hM hF hq hah
  go_enter Try.func104, Try.ntmps104
  go_wp2
  go_loopw [5, 11] (fun z i wr => ∃ (k : Nat) (y : Int), k ≤ nt ∧ i = .int .i64 k ∧ z = .int .i64 y ∧ InBox w wr (.slice ap np cp) (.slice at_ nt ct) ∧ Hid (y = bestTo m n.trans k)) (fun _ i _ => nt - (intOf i).toNat)
  case atStart => exact ⟨0, -1, by omega, rfl, rfl, InBox.start _ _ _, Lib.hid rfl⟩
  case round =>
    rename World => v1
    obtain ⟨k, y, hk, rfl, rfl, hin, Hy⟩ := hrel
    by_cases hlt : k < nt
    · obtain ⟨t, htr⟩ := at_lt (l := n.trans) (k := k) (by rw [← Hnt.out]; exact hlt)
      have hlti : (k : Int) < (nt : Int) := by omega
      obtain ⟨b, off, a1, c1, a2, c2, a3, c3, rfl, hbw, e0, e1, e2, e3, e4, e5, hI, hN, _⟩ := (Ht.out.below hin.old).at_ (i := k) (t := t) (by rw [Hl.out]; exact htr)
      have Htr := Lib.hid htr
      have Hnext : Hid (bestTo m n.trans (k + 1) = stepB m n.trans y k) := Lib.hid (by rw [Hy.out]; rfl)
      have hbd := bestTo_bd m n.trans k
      rw [← Hy.out] at hbd
      obtain ⟨o, ho⟩ : ∃ o, o = Obj.cells #[.string t.name, .int .i64 t.delay, .int .i64 t.prio, .slice a1 t.inn.length c1, .slice a2 t.nt.length c2, .slice a3 t.out.length c3] 79 := ⟨_, rfl⟩
      have hb1 : Below v1.heap.size v1 (v1.alloc o) := (Below.refl _ _).alloc (Nat.le_refl _) o
      have Hin := Lib.hid (hin.go hb1)
      have Hm1 : Hid (∀ q, q = mayB m t.inn t.nt → Calls Try.prog 86 #[trV t.name t.delay t.prio a1 t.inn.length c1 a2 t.nt.length c2 a3 t.out.length c3, .slice am nm cm] (v1.alloc o) fun e w' => e = .returned (.bool q) ∧ Below (v1.alloc o).heap.size (v1.alloc o) w') :=
        Lib.hid (fun q hq => may_any rfl rfl Hnm.out (hI.below hb1) (hN.below hb1) (HM.out.below (hin.go hb1).old) (HF.out t (List.mem_of_getElem? htr)).1 (HF.out t (List.mem_of_getElem? htr)).2 q hq)
      subst ho
      obtain ⟨n1, hn1⟩ : ∃ n, n = t.inn.length := ⟨_, rfl⟩
      obtain ⟨n2, hn2⟩ : ∃ n, n = t.nt.length := ⟨_, rfl⟩
      obtain ⟨n3, hn3⟩ : ∃ n, n = t.out.length := ⟨_, rfl⟩
      rw [← hn1] at e3 Hm1 Hin
      rw [← hn2] at e4 Hm1 Hin
      rw [← hn3] at e5 Hm1 Hin
      clear hb1 hI hN htr hin hn1 hn2 hn3
      cases hmay : mayB m t.inn t.nt with
      | false =>
        have Hr : Hid (y = bestTo m n.trans (k + 1)) := Lib.hid (by rw [Hnext.out, stepB_no Htr.out hmay])
        have Hmay := Lib.hid hmay
        clear hmay hbd
        go_wp2_with (go_at_call 86; refine (Hm1.out false Hmay.out.symm).mono ?_; rintro e w2 ⟨rfl, hb2⟩; have Hb2 := Lib.hid hb2; clear hb2)
        go_roundw
        case rel => exact ⟨k + 1, y, by omega, by go_num, rfl, Hin.out.go Hb2.out, Hr⟩
        case measure => simp [intOf]; omega
      | true =>
        by_cases hneg : y < 0
        · have Hr : Hid ((k : Int) = bestTo m n.trans (k + 1)) := Lib.hid (by rw [Hnext.out, stepB_first Htr.out hmay hneg])
          have Hmay := Lib.hid hmay
          clear hmay hbd
          go_wp2_with (go_at_call 86; refine (Hm1.out true Hmay.out.symm).mono ?_; rintro e w2 ⟨rfl, hb2⟩; have Hb2 := Lib.hid hb2; clear hb2)
          go_roundw
          case rel => exact ⟨k + 1, k, by omega, by go_num, rfl, Hin.out.go Hb2.out, Hr⟩
          case measure => simp [intOf]; omega
        · have hnegb : decide (y < 0) = false := decide_eq_false hneg
          obtain ⟨c, rfl⟩ : ∃ c : Nat, y = c := ⟨y.toNat, by omega⟩
          obtain ⟨u, hu⟩ := at_lt (l := n.trans) (k := c) (by rw [← Hnt.out]; omega)
          have Hu := Lib.hid hu
          have hst := stepB_more (m := m) Htr.out hmay hu
          have hck : ¬ k < c := by omega
          have Hmay := Lib.hid hmay
          by_cases hp : t.prio < u.prio
          · have Hr : Hid ((k : Int) = bestTo m n.trans (k + 1)) := Lib.hid (by rw [Hnext.out, hst, if_pos hp])
            have Hq : Hid (true = aheadB t.prio u.prio k c) := Lib.hid (by simp [aheadB, hp])
            clear hmay hbd hst hu hck hp
            go_wp2_with (first | (go_at_call 86; refine (Hm1.out true Hmay.out.symm).mono ?_; rintro e w2 ⟨rfl, hb2⟩; have Hb2 := Lib.hid hb2; clear hb2; have d0 := (Hin.out.go Hb2.out).c0; have d1 := (Hin.out.go Hb2.out).c1) | (go_at_call 116; refine (Hah.out _ (Hin.out.go Hb2.out).old _ _ _ _ Htr.out Hu.out true Hq.out).mono ?_; rintro e w3 ⟨rfl, hb3⟩; have Hb3 := Lib.hid hb3; clear hb3))
            go_roundw
            case rel => exact ⟨k + 1, k, by omega, by go_num, rfl, (Hin.out.go Hb2.out).go Hb3.out, Hr⟩
            case measure => simp [intOf]; omega
          · have Hr : Hid ((c : Int) = bestTo m n.trans (k + 1)) := Lib.hid (by rw [Hnext.out, hst, if_neg hp])
            have Hq : Hid (false = aheadB t.prio u.prio k c) := Lib.hid (by simp [aheadB]; constructor <;> omega)
            clear hmay hbd hst hu hck hp
            go_wp2_with (first | (go_at_call 86; refine (Hm1.out true Hmay.out.symm).mono ?_; rintro e w2 ⟨rfl, hb2⟩; have Hb2 := Lib.hid hb2; clear hb2; have d0 := (Hin.out.go Hb2.out).c0; have d1 := (Hin.out.go Hb2.out).c1) | (go_at_call 116; refine (Hah.out _ (Hin.out.go Hb2.out).old _ _ _ _ Htr.out Hu.out false Hq.out).mono ?_; rintro e w3 ⟨rfl, hb3⟩; have Hb3 := Lib.hid hb3; clear hb3))
            go_roundw
            case rel => exact ⟨k + 1, c, by omega, by go_num, rfl, (Hin.out.go Hb2.out).go Hb3.out, Hr⟩
            case measure => simp [intOf]; omega
    · have hge : ¬ (k : Int) < (nt : Int) := by omega
      obtain rfl : q = y := by rw [HQ.out, Hy.out, show k = nt by omega]
      have Hi := Lib.hid hin
      clear hin
      go_wp2
      go_ret
      exact ⟨rfl, Hi.out.old⟩
end Go.Proofs.Ytpbbdnicafifpaa
