/-
  What Place and Trans of net come to: the first with that name.
  Conditions: none beyond each theorem's own.
-/
import Derived.Test.YtfiielibnnodkaaNetE
namespace Go.Proofs.Ytfiielibnnodkaa
open Go.RowKit
set_option linter.unusedVariables false

theorem placeIs_any (x : ByteArray) (y : Int) (s : ByteArray) (g : Nat) (w : World) (hg : g < w.heap.size) (hc : w.cell? ⟨g, 0, none⟩ = some (.string s)) (q : Bool) (hq : sEq x s = q) :
    Calls Try.prog 108 #[.agg #[.string x, .int .i64 y], .pointer (some ⟨g, 0, none⟩)] w fun e w' => e = .returned (.bool q) ∧ Below w.heap.size w w' := by
  have hq2 : (x.toList == s.toList) = q := by rw [sEq_toList]; exact hq
  clear hq
  go_enter Try.func108, Try.ntmps108
  go_wp2
  go_ret
  exact ⟨rfl, (Below.refl _ _).alloc (Nat.le_refl _) _⟩

theorem transIs_any (x : ByteArray) (d p : Int) (a1 a2 a3 : Option Addr) (n1 c1 n2 c2 n3 c3 : Nat) (s : ByteArray) (g : Nat) (w : World) (hg : g < w.heap.size) (hc : w.cell? ⟨g, 0, none⟩ = some (.string s)) (q : Bool) (hq : sEq x s = q) :
    Calls Try.prog 109 #[trV x d p a1 n1 c1 a2 n2 c2 a3 n3 c3, .pointer (some ⟨g, 0, none⟩)] w fun e w' => e = .returned (.bool q) ∧ Below w.heap.size w w' := by
  have hq2 : (x.toList == s.toList) = q := by rw [sEq_toList]; exact hq
  clear hq
  go_enter Try.func109, Try.ntmps109
  go_wp2
  go_ret
  exact ⟨rfl, (Below.refl _ _).alloc (Nat.le_refl _) _⟩

/-- has a place that name? a transition? -/
def plHas (s : ByteArray) (p : Pl) : Bool := sEq p.name s
def trHas (s : ByteArray) (t : Tr) : Bool := sEq t.name s

set_option maxRecDepth 100000 in
set_option maxHeartbeats 1000000 in
theorem idxPl_any {w : World} {l : List Pl} {a : Option Addr} {n cap g : Nat} {s : ByteArray} (hn : n = l.length) (h : PlsAt w (.slice a n cap) l) (hg : g < w.heap.size) (hc : w.cell? ⟨g, 0, none⟩ = some (.string s)) :
    Calls Try.prog 107 #[.slice a n cap, .func (.func 108) #[] #[.pointer (some ⟨g, 0, none⟩)]] w fun e w' => e = .returned (.int .i64 (idxOf (plHas s) l)) ∧ Below w.heap.size w w' := by
  have hmax : n ≤ 9223372036854775807 := by have := RowAt.max h; omega
  have H := Lib.hid h
  have Hn := Lib.hid hn
  obtain ⟨q, hq⟩ : ∃ q, q = idxOf (plHas s) l := ⟨_, rfl⟩
  rw [← hq]
  have Hq : Hid (q = idxFrom (plHas s) l 0) := Lib.hid hq
  have Hc := Lib.hid hc
  clear h hn hq hc
  go_enter Try.func107, Try.ntmps107
  go_wp2
  go_loopw [8] (fun i wr => ∃ k : Nat, k ≤ n ∧ i = .int .i64 k ∧ Below w.heap.size w wr ∧ Hid (q = idxFrom (plHas s) l k)) (fun i _ => n - (intOf i).toNat)
  case atStart => exact ⟨0, by omega, rfl, Below.refl _ _, Hq⟩
  case round =>
    obtain ⟨k, hk, rfl, hb, Hk⟩ := hrel
    by_cases hlt : k < n
    · obtain ⟨x, ht⟩ := at_lt (l := l) (k := k) (by rw [← Hn.out]; exact hlt)
      have hlti : (k : Int) < (n : Int) := by omega
      obtain ⟨b, off, rfl, hbw, e0, e1⟩ := (H.out.below hb).at_ ht
      have hgc : wr.cell? ⟨g, 0, none⟩ = some (.string s) := (below_cells hb g 0 hg).trans Hc.out
      have hgw : g < wr.heap.size := Nat.lt_of_lt_of_le hg hb.size
      have Ht := Lib.hid ht
      have Hb := Lib.hid hb
      clear ht hb
      cases hf : sEq x.name s with
      | true =>
        have Hr : Hid (q = (k : Int)) := Lib.hid (by rw [Hk.out]; exact idxFrom_yes Ht.out hf)
        have HF := Lib.hid hf
        clear hf
        go_wp2_with (go_at_call 108; refine (placeIs_any _ _ _ _ _ hgw hgc _ HF.out).mono ?_; rintro e w' ⟨rfl, hb'⟩; have HB := Lib.hid hb'; clear hb')
        go_ret
        exact ⟨by rw [Hr.out]; rfl, Hb.out.trans (HB.out.mono Hb.out.size)⟩
      | false =>
        have Hr : Hid (q = idxFrom (plHas s) l (k + 1)) := Lib.hid (by rw [Hk.out]; exact idxFrom_no Ht.out hf)
        have HF := Lib.hid hf
        clear hf
        go_wp2_with (go_at_call 108; refine (placeIs_any _ _ _ _ _ hgw hgc _ HF.out).mono ?_; rintro e w' ⟨rfl, hb'⟩; have HB := Lib.hid hb'; clear hb')
        go_roundw
        case rel => exact ⟨k + 1, by omega, by go_num, Hb.out.trans (HB.out.mono Hb.out.size), Hr⟩
        case measure => simp [intOf]; omega
    · have hge : ¬ (k : Int) < (n : Int) := by omega
      have Hr : Hid (q = -1) := Lib.hid (by rw [Hk.out]; exact idxFrom_end _ _ _ (by rw [← Hn.out]; omega))
      have Hb := Lib.hid hb
      clear hb
      go_wp2
      go_ret
      exact ⟨by rw [Hr.out]; rfl, Hb.out⟩

set_option maxRecDepth 100000 in
set_option maxHeartbeats 1000000 in
theorem idxTr_any {w : World} {l : List (Tr × Value × Value × Value)} {ts : List Tr} (hts : l.map (·.1) = ts) {a : Option Addr} {n cap g : Nat} {s : ByteArray} (hn : n = ts.length) (h : TrsAt w (.slice a n cap) l) (hg : g < w.heap.size) (hc : w.cell? ⟨g, 0, none⟩ = some (.string s)) :
    Calls Try.prog 79 #[.slice a n cap, .func (.func 109) #[] #[.pointer (some ⟨g, 0, none⟩)]] w fun e w' => e = .returned (.int .i64 (idxOf (trHas s) ts)) ∧ Below w.heap.size w w' := by
  have hmax : n ≤ 9223372036854775807 := by have := RowAt.max h.1; rw [hn, ← hts, List.length_map]; exact this
  have H := Lib.hid h
  have Hts := Lib.hid hts
  have Hn := Lib.hid hn
  obtain ⟨q, hq⟩ : ∃ q, q = idxOf (trHas s) ts := ⟨_, rfl⟩
  rw [← hq]
  have Hq : Hid (q = idxFrom (trHas s) ts 0) := Lib.hid hq
  have Hc := Lib.hid hc
  clear h hn hq hc hts
  go_enter Try.func79, Try.ntmps79
  go_wp2
  go_loopw [8] (fun i wr => ∃ k : Nat, k ≤ n ∧ i = .int .i64 k ∧ Below w.heap.size w wr ∧ Hid (q = idxFrom (trHas s) ts k)) (fun i _ => n - (intOf i).toNat)
  case atStart => exact ⟨0, by omega, rfl, Below.refl _ _, Hq⟩
  case round =>
    obtain ⟨k, hk, rfl, hb, Hk⟩ := hrel
    by_cases hlt : k < n
    · obtain ⟨t, ht⟩ := at_lt (l := ts) (k := k) (by rw [← Hn.out]; exact hlt)
      have hlti : (k : Int) < (n : Int) := by omega
      obtain ⟨b, off, a1, c1, a2, c2, a3, c3, rfl, hbw, e0, e1, e2, e3, e4, e5, _, _, _⟩ := (H.out.below hb).at_ (i := k) (t := t) (by rw [Hts.out]; exact ht)
      have hgc : wr.cell? ⟨g, 0, none⟩ = some (.string s) := (below_cells hb g 0 hg).trans Hc.out
      have hgw : g < wr.heap.size := Nat.lt_of_lt_of_le hg hb.size
      have Ht := Lib.hid ht
      have Hb := Lib.hid hb
      clear ht hb
      cases hf : sEq t.name s with
      | true =>
        have Hr : Hid (q = (k : Int)) := Lib.hid (by rw [Hk.out]; exact idxFrom_yes Ht.out hf)
        have HF := Lib.hid hf
        clear hf
        go_wp2_with (go_at_call 109; refine (transIs_any _ _ _ _ _ _ _ _ _ _ _ _ _ _ _ hgw hgc _ HF.out).mono ?_; rintro e w' ⟨rfl, hb'⟩; have HB := Lib.hid hb'; clear hb')
        go_ret
        exact ⟨by rw [Hr.out]; rfl, Hb.out.trans (HB.out.mono Hb.out.size)⟩
      | false =>
        have Hr : Hid (q = idxFrom (trHas s) ts (k + 1)) := Lib.hid (by rw [Hk.out]; exact idxFrom_no Ht.out hf)
        have HF := Lib.hid hf
        clear hf
        go_wp2_with (go_at_call 109; refine (transIs_any _ _ _ _ _ _ _ _ _ _ _ _ _ _ _ hgw hgc _ HF.out).mono ?_; rintro e w' ⟨rfl, hb'⟩; have HB := Lib.hid hb'; clear hb')
        go_roundw
        case rel => exact ⟨k + 1, by omega, by go_num, Hb.out.trans (HB.out.mono Hb.out.size), Hr⟩
        case measure => simp [intOf]; omega
    · have hge : ¬ (k : Int) < (n : Int) := by omega
      have Hr : Hid (q = -1) := Lib.hid (by rw [Hk.out]; exact idxFrom_end _ _ _ (by rw [← Hn.out]; omega))
      have Hb := Lib.hid hb
      clear hb
      go_wp2
      go_ret
      exact ⟨by rw [Hr.out]; rfl, Hb.out⟩

set_option maxRecDepth 100000 in
theorem netplace_any {w : World} {n : Nt} {ap at_ : Option Addr} {cp ct np nt : Nat} {s : ByteArray} (hnp : np = n.places.length) (h : NetAt w (.slice ap np cp) (.slice at_ nt ct) n) :
    Calls Try.prog 97 #[.agg #[.slice ap np cp, .slice at_ nt ct], .string s] w fun e w' => e = .returned (.int .i64 (idxOf (plHas s) n.places)) ∧ Below w.heap.size w w' := by
  have hb0 : Below w.heap.size w ((w.alloc (.cells #[.slice ap np cp, .slice at_ nt ct] 30)).alloc (.cells #[.string s] 9)) := ((Below.refl _ _).alloc (Nat.le_refl _) _).alloc (by simp) _
  have hc := idxPl_any (w := (w.alloc (.cells #[.slice ap np cp, .slice at_ nt ct] 30)).alloc (.cells #[.string s] 9)) (g := w.heap.size + 1) (s := s) hnp (h.1.below hb0) (by simp) (by go_simp)
  have Hc := Lib.hid hc
  have Hb := Lib.hid hb0
  clear hc h hnp hb0
  go_enter Try.func97, Try.ntmps97
  go_wp2_with fail
  refine Hc.out.mono ?_
  rintro e w' ⟨rfl, hb⟩
  go_wp2
  go_ret
  exact ⟨rfl, Hb.out.trans (hb.mono (by simp; omega))⟩

set_option maxRecDepth 100000 in
theorem nettrans_any {w : World} {n : Nt} {ap at_ : Option Addr} {cp ct np nt : Nat} {s : ByteArray} (hnt : nt = n.trans.length) (h : NetAt w (.slice ap np cp) (.slice at_ nt ct) n) :
    Calls Try.prog 98 #[.agg #[.slice ap np cp, .slice at_ nt ct], .string s] w fun e w' => e = .returned (.int .i64 (idxOf (trHas s) n.trans)) ∧ Below w.heap.size w w' := by
  have hb0 : Below w.heap.size w ((w.alloc (.cells #[.slice ap np cp, .slice at_ nt ct] 30)).alloc (.cells #[.string s] 9)) := ((Below.refl _ _).alloc (Nat.le_refl _) _).alloc (by simp) _
  obtain ⟨_, l, hl, ht⟩ := h
  have hc := idxTr_any (w := (w.alloc (.cells #[.slice ap np cp, .slice at_ nt ct] 30)).alloc (.cells #[.string s] 9)) (g := w.heap.size + 1) (s := s) hl hnt (ht.below hb0) (by simp) (by go_simp)
  have Hc := Lib.hid hc
  have Hb := Lib.hid hb0
  clear hc ht hl hnt hb0
  go_enter Try.func98, Try.ntmps98
  go_wp2_with fail
  refine Hc.out.mono ?_
  rintro e w' ⟨rfl, hb⟩
  go_wp2
  go_ret
  exact ⟨rfl, Hb.out.trans (hb.mono (by simp; omega))⟩
end Go.Proofs.Ytfiielibnnodkaa
