/-
  What mark's May comes to, and the document's own: is each place of In full enough, and none of Not too full?
  Conditions: none beyond each theorem's own.
-/
import Derived.Test.YtpfdmmidomofdaaNew
import Derived.Deep.QuietTactic
import Derived.BigQuiet
namespace Go.Proofs.Ytpfdmmidomofdaa
open Go.RowKit
set_option linter.unusedVariables false

/-- a slice of ints that can be read -/
def intL (k : Int) : List Value := [.int .i64 k]
theorem intL_len (k : Int) : (intL k).length = 1 := rfl
def IntsAt (w : World) (v : Value) (l : List Int) : Prop := RowAt 1 w v l.length (l.flatMap intL)
theorem IntsAt.below {w w' : World} {v : Value} {l : List Int} (h : IntsAt w v l) (hb : Below w.heap.size w w') : IntsAt w' v l := RowAt.below h hb
theorem IntsAt.at_ {w : World} {l : List Int} {a : Option Addr} {n cap : Nat} (h : IntsAt w (.slice a n cap) l) {i : Nat} {x : Int} (hi : l[i]? = some x) :
    ∃ b off, a = some ⟨b, off, none⟩ ∧ b < w.heap.size ∧ w.cell? ⟨b, off + i, none⟩ = some (.int .i64 x) := by
  obtain ⟨b, off, e, hb, hc⟩ := RowAt.elem intL_len h hi
  exact ⟨b, off, e, hb, by have := hc 0 _ rfl; simpa using this⟩

/-- the tokens of a place -/
def getI (m : List Int) (p : Int) : Int := m.getD p.toNat 0
/-- all arcs go to places that are -/
def Fits (n : Nat) (l : List (Int × Int)) : Prop := ∀ a ∈ l, 0 ≤ a.1 ∧ a.1 < n
def shortA (m : List Int) (a : Int × Int) : Bool := decide (getI m a.1 < a.2)
def fullA (m : List Int) (a : Int × Int) : Bool := decide (a.2 ≤ getI m a.1)
/-- may a transition with these lists fire? -/
def mayB (m : List Int) (li ln : List (Int × Int)) : Bool := !(li.any (shortA m)) && !(ln.any (fullA m))

theorem Fits.at_ {m : List Int} {l : List (Int × Int)} (h : Fits m.length l) {k : Nat} {x y : Int} (hk : l[k]? = some (x, y)) : ∃ p : Nat, x = p ∧ p < m.length ∧ ∃ z, m[p]? = some z ∧ getI m x = z := by
  obtain ⟨h1, h2⟩ := h _ (List.mem_of_getElem? hk)
  simp only at h1 h2
  refine ⟨x.toNat, by omega, by omega, m.getD x.toNat 0, ?_, rfl⟩
  have : x.toNat < m.length := by omega
  simp [List.getD, this]

theorem hasInt_any (a : Option Addr) (n cap k : Nat) (hk : k < n) (w : World) : Calls Try.prog 94 #[.slice a n cap, .int .i64 k] w fun e w' => e = .returned (.bool true) ∧ w = w' := by
  have h1 : (0 : Int) ≤ (k : Int) := by omega
  have h2 : (k : Int) < (n : Int) := by omega
  go_enter Try.func94, Try.ntmps94
  go_wp2
  go_ret
  exact ⟨rfl, rfl⟩

theorem hasInt_new (a : Option Addr) (n cap k : Nat) (hk : k < n) (w : World) : Calls Try.prog 94 #[.slice a n cap, .int .i64 k] w fun e w' => e = .returned (.bool true) ∧ Below w.heap.size w w' :=
  (hasInt_any a n cap k hk w).mono fun _ _ h => ⟨h.1, h.2 ▸ Below.refl _ _⟩

theorem hasInt_same (a : Option Addr) (n cap k : Nat) (hk : k < n) (w : World) : Calls Try.prog 94 #[.slice a n cap, .int .i64 k] w fun e w' => e = .returned (.bool true) ∧ w' = w :=
  (hasInt_any a n cap k hk w).mono fun _ _ h => ⟨h.1, h.2.symm⟩

theorem drewNb (w : World) (k : Nat) : Below w.heap.size w (w.drewN k) := ⟨rfl, rfl, rfl, Nat.le_refl _, fun _ _ => rfl⟩

/-- a transition's box, and what has come since -/
structure InTr (w wr : World) (v : Value) : Prop where
  below : ∃ cs, v = .agg cs ∧ Below (w.heap.size + 1) (w.alloc (.cells cs 46)) wr

theorem InTr.start (w : World) (cs : Array Value) : InTr w (w.alloc (.cells cs 46)) (.agg cs) := ⟨cs, rfl, Below.refl _ _⟩
theorem InTr.old {w wr : World} {v : Value} (h : InTr w wr v) : Below w.heap.size w wr := by
  obtain ⟨cs, rfl, g⟩ := h.below
  exact ((Below.refl _ w).alloc (Nat.le_refl _) _).trans (g.mono (by omega))
theorem InTr.size {w wr : World} {v : Value} (h : InTr w wr v) : w.heap.size < wr.heap.size := by
  obtain ⟨cs, rfl, g⟩ := h.below
  have := g.size; simp at this; omega
theorem InTr.go {w wr w' : World} {v : Value} (h : InTr w wr v) (hb : Below wr.heap.size wr w') : InTr w w' v := by
  obtain ⟨cs, rfl, g⟩ := h.below
  exact ⟨cs, rfl, g.trans (hb.mono (by have := g.size; simp at this; omega))⟩
theorem InTr.cell {w wr : World} {cs : Array Value} (h : InTr w wr (.agg cs)) (j : Nat) {x : Value} (hj : cs[j]? = some x) : wr.cell? ⟨w.heap.size, j, none⟩ = some x := by
  obtain ⟨cs', e, g⟩ := h.below
  injection e with e
  subst e
  refine (g.cell (p := ⟨w.heap.size, j, none⟩) (by simp)).trans ?_
  rw [cell_of_row _ _ j _ _ (0, 0) (heap_alloc_new w (.cells cs 46)), hj]

set_option maxRecDepth 100000 in
set_option maxHeartbeats 4000000 in
theorem may_any {w : World} {s : ByteArray} {d p : Int} {a1 a2 a3 am : Option Addr} {n1 n2 n3 c1 c2 c3 nm cm : Nat} {m : List Int} {li ln : List (Int × Int)} (h1 : n1 = li.length) (h2 : n2 = ln.length) (hm : nm = m.length)
    (hI : ArcsAt w (.slice a1 n1 c1) li) (hN : ArcsAt w (.slice a2 n2 c2) ln) (hM : IntsAt w (.slice am nm cm) m) (fI : Fits m.length li) (fN : Fits m.length ln) (q : Bool) (hq : q = mayB m li ln) :
    Calls Try.prog 69 #[trV s d p a1 n1 c1 a2 n2 c2 a3 n3 c3, .slice am nm cm] w fun e w' => e = .returned (.bool q) ∧ Below w.heap.size w w' := by
  have hx1 : n1 ≤ 9223372036854775807 := by have := RowAt.max hI; omega
  have hx2 : n2 ≤ 9223372036854775807 := by have := RowAt.max hN; omega
  have H1 := Lib.hid h1
  have H2 := Lib.hid h2
  have Hm := Lib.hid hm
  have HI := Lib.hid hI
  have HN := Lib.hid hN
  have HM := Lib.hid hM
  have FI := Lib.hid fI
  have FN := Lib.hid fN
  have HQ := Lib.hid hq
  clear h1 h2 hm hI hN hM fI fN hq
  go_enter Try.func69, Try.ntmps69
  go_wp2
  go_loopw [12] (fun i wr => ∃ k : Nat, k ≤ n1 ∧ i = .int .i64 k ∧ InTr w wr (trV s d p a1 n1 c1 a2 n2 c2 a3 n3 c3) ∧ Hid (li.any (shortA m) = anyFrom (shortA m) li k)) (fun i _ => n1 - (intOf i).toNat)
  case atStart => exact ⟨0, by omega, rfl, InTr.start _ _, Lib.hid (by rw [anyFrom_zero])⟩
  case round =>
    rename World => v1
    obtain ⟨k, hk, rfl, hin, Hk⟩ := hrel
    by_cases hlt : k < n1
    · obtain ⟨⟨x, y⟩, hx⟩ := at_lt (l := li) (k := k) (by rw [← H1.out]; exact hlt)
      have hlti : (k : Int) < (n1 : Int) := by omega
      obtain ⟨b, off, rfl, hbw, e0, e1⟩ := (HI.out.below hin.old).at_ hx
      obtain ⟨p, rfl, hp, z, hz, hg⟩ := FI.out.at_ hx
      obtain ⟨bm, om, rfl, hbm, em⟩ := (HM.out.below hin.old).at_ hz
      have hpn : p < nm := by rw [Hm.out]; exact hp
      have hpi : (p : Int) < (nm : Int) := by omega
      have Hin := Lib.hid (hin.go ((Below.refl _ _).alloc (Nat.le_refl _) (.cells #[.int .i64 (p : Int), .int .i64 y] 52)))
      have Hyes : Hid (z < y → q = false) := Lib.hid (fun e => by
        rw [HQ.out]; unfold mayB
        rw [Hk.out, anyFrom_yes hx (by unfold shortA; simp [hg, e])]; rfl)
      have Hno : Hid (¬ z < y → li.any (shortA m) = anyFrom (shortA m) li (k + 1)) := Lib.hid (fun e => by rw [Hk.out]; exact anyFrom_no hx (by unfold shortA; simp [hg]; omega))
      clear hx hz hg hin hp
      by_cases g : z < y
      · obtain rfl : q = false := Hyes.out g
        go_wp2
        go_quiet (first | (go_at_call 94; exact Calls.quiet_of_same (hasInt_same _ _ _ _ hpn _)))
        go_wp2
        go_ret
        exact ⟨rfl, (Hin.out.go (drewNb _ _)).old⟩
      · have gb : decide (z < y) = false := decide_eq_false g
        have Hr := Lib.hid (Hno.out g)
        go_wp2
        go_quiet (first | (go_at_call 94; exact Calls.quiet_of_same (hasInt_same _ _ _ _ hpn _)))
        go_wp2
        go_roundw
        case rel => exact ⟨k + 1, by omega, by go_num, Hin.out.go (drewNb _ _), Hr⟩
        case measure => simp [intOf]; omega
    · have hge : ¬ (k : Int) < (n1 : Int) := by omega
      have HQ2 : Hid (q = !(ln.any (fullA m))) := Lib.hid (by
        rw [HQ.out]; unfold mayB
        rw [Hk.out, anyFrom_end _ _ _ (by rw [← H1.out]; omega)]; rfl)
      have hc4 := hin.cell 4 rfl
      have Hi := Lib.hid hin
      clear hin
      go_wp2
      clear hc4
      go_loopw [35] (fun i wr => ∃ k : Nat, k ≤ n2 ∧ i = .int .i64 k ∧ InTr w wr (trV s d p a1 n1 c1 a2 n2 c2 a3 n3 c3) ∧ Hid (ln.any (fullA m) = anyFrom (fullA m) ln k)) (fun i _ => n2 - (intOf i).toNat)
      case atStart => exact ⟨0, by omega, rfl, Hi.out, Lib.hid (by rw [anyFrom_zero])⟩
      case round =>
        rename World => v2
        obtain ⟨k, hk, rfl, hin, Hk⟩ := hrel
        by_cases hlt : k < n2
        · obtain ⟨⟨x, y⟩, hx⟩ := at_lt (l := ln) (k := k) (by rw [← H2.out]; exact hlt)
          have hlti : (k : Int) < (n2 : Int) := by omega
          obtain ⟨b, off, rfl, hbw, e0, e1⟩ := (HN.out.below hin.old).at_ hx
          obtain ⟨p, rfl, hp, z, hz, hg⟩ := FN.out.at_ hx
          obtain ⟨bm, om, rfl, hbm, em⟩ := (HM.out.below hin.old).at_ hz
          have hpn : p < nm := by rw [Hm.out]; exact hp
          have hpi : (p : Int) < (nm : Int) := by omega
          have Hin := Lib.hid (hin.go ((Below.refl _ _).alloc (Nat.le_refl _) (.cells #[.int .i64 (p : Int), .int .i64 y] 52)))
          have Hyes : Hid (y ≤ z → q = false) := Lib.hid (fun e => by
            rw [HQ2.out, Hk.out, anyFrom_yes hx (by unfold fullA; simp [hg, e])]; rfl)
          have Hno : Hid (¬ y ≤ z → ln.any (fullA m) = anyFrom (fullA m) ln (k + 1)) := Lib.hid (fun e => by rw [Hk.out]; exact anyFrom_no hx (by unfold fullA; simp [hg]; omega))
          clear hx hz hg hin hp
          by_cases g : y ≤ z
          · obtain rfl : q = false := Hyes.out g
            go_wp2
            go_quiet (first | (go_at_call 94; exact Calls.quiet_of_same (hasInt_same _ _ _ _ hpn _)))
            go_wp2
            go_ret
            exact ⟨rfl, (Hin.out.go (drewNb _ _)).old⟩
          · have gb : decide (y ≤ z) = false := decide_eq_false g
            have Hr := Lib.hid (Hno.out g)
            go_wp2
            go_quiet (first | (go_at_call 94; exact Calls.quiet_of_same (hasInt_same _ _ _ _ hpn _)))
            go_wp2
            go_roundw
            case rel => exact ⟨k + 1, by omega, by go_num, Hin.out.go (drewNb _ _), Hr⟩
            case measure => simp [intOf]; omega
        · have hge : ¬ (k : Int) < (n2 : Int) := by omega
          obtain rfl : q = true := by rw [HQ2.out, Hk.out, anyFrom_end _ _ _ (by rw [← H2.out]; omega)]; rfl
          have Hi := Lib.hid hin
          clear hin
          go_wp2
          go_ret
          exact ⟨rfl, Hi.out.old⟩
end Go.Proofs.Ytpfdmmidomofdaa
