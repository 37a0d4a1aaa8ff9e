/-
  The walk of the law NetNames: for every net and every text it returns true.
  Conditions: none beyond each theorem's own.
-/
import Derived.Test.YtjkkddocopolcaaNetSmall
import Derived.Test.YtjkkddocopolcaaNetLook
import Derived.Deep.QuietTactic
import Derived.BigQuiet
import Derived.IntWalk
namespace Go.Proofs.Ytjkkddocopolcaa
open Go.RowKit
set_option linter.unusedVariables false

/-- the net's box, its names, and what has come since -/
structure InN (w wr : World) (v : Value) (n : Nt) (x y : Value) : Prop where
  box : InBox w wr x y
  names : StrsAt wr v n.names

theorem InN.go {w wr w' : World} {v x y : Value} {n : Nt} (h : InN w wr v n x y) (hb : Below wr.heap.size wr w') : InN w w' v n x y := ⟨h.box.go hb, h.names.below hb⟩
theorem drewN_below (w : World) (k : Nat) : Below w.heap.size w (w.drewN k) := ⟨rfl, rfl, rfl, Nat.le_refl _, fun _ _ => rfl⟩

theorem names_at_pl {n : Nt} {k : Nat} {x : Pl} (h : n.places[k]? = some x) : n.names[k]? = some x.name := by
  unfold Nt.names
  rw [List.getElem?_append_left (by rw [List.length_map]; exact lt_at h), List.getElem?_map, h]; rfl
theorem names_at_tr {n : Nt} {k : Nat} {t : Tr} (h : n.trans[k]? = some t) : n.names[n.places.length + k]? = some t.name := by
  unfold Nt.names
  rw [List.getElem?_append_right (by rw [List.length_map]; omega), List.length_map, Nat.add_sub_cancel_left, List.getElem?_map, h]; rfl

set_option maxRecDepth 100000 in
set_option maxHeartbeats 8000000 in
theorem names_lawS {w : World} {n : Nt} {ap at_ : Option Addr} {cp ct : Nat} {s : ByteArray} (h : NetAt w (.slice ap n.places.length cp) (.slice at_ n.trans.length ct) n) (hbig : bigN n = false) (hs : s.size ≤ 40) :
    Calls Try.prog 7 #[.agg #[.slice ap n.places.length cp, .slice at_ n.trans.length ct], .string s] w fun e w' => e = .returned (.bool true) ∧ Below w.heap.size w w' := by
  have hlp : n.places.length ≤ 40 := by unfold bigN at hbig; simp at hbig; omega
  have hlt : n.trans.length ≤ 40 := by unfold bigN at hbig; simp at hbig; omega
  have Hsm : Hid (∀ W : World, Below w.heap.size w W → Calls Try.prog 11 #[.agg #[.slice ap n.places.length cp, .slice at_ n.trans.length ct]] W fun e w' => e = .returned (.bool (!bigN n)) ∧ Below W.heap.size W w') := Lib.hid (fun W hW => small_any (h.below hW))
  rw [hbig] at Hsm
  have Hnm : Hid (∀ W : World, Below w.heap.size w W → Calls Try.prog 18 #[.agg #[.slice ap n.places.length cp, .slice at_ n.trans.length ct]] W fun e w' => ∃ v, e = .returned v ∧ OwnS W.heap.size w' v n.names ∧ Below W.heap.size W w') := Lib.hid (fun W hW => names_any (h.below hW) (by omega) (by omega))
  have Hpc : Hid (∀ W : World, Below w.heap.size w W → Calls Try.prog 19 #[.agg #[.slice ap n.places.length cp, .slice at_ n.trans.length ct], .string s] W fun e w' => e = .returned (.int .i64 (idxOf (plHas s) n.places)) ∧ Below W.heap.size W w') := Lib.hid (fun W hW => place_any rfl (h.below hW))
  have Htc : Hid (∀ W : World, Below w.heap.size w W → Calls Try.prog 20 #[.agg #[.slice ap n.places.length cp, .slice at_ n.trans.length ct], .string s] W fun e w' => e = .returned (.int .i64 (idxOf (trHas s) n.trans)) ∧ Below W.heap.size W w') := Lib.hid (fun W hW => trans_any rfl (h.below hW))
  have hnl : n.names.length = n.places.length + n.trans.length := by simp [Nt.names]
  have hatr : ∀ (k : Nat) (t : Tr), n.trans[k]? = some t → n.names[n.places.length + k]? = some t.name := fun k t => names_at_tr
  obtain ⟨hpl, lt, hts, htr⟩ := h
  obtain ⟨np, hnp⟩ : ∃ k, k = n.places.length := ⟨_, rfl⟩
  obtain ⟨nt, hnt⟩ : ∃ k, k = n.trans.length := ⟨_, rfl⟩
  rw [← hnp] at hpl Hsm Hnm Hpc Htc hlp hatr hnl ⊢
  rw [← hnt] at htr Hsm Hnm Hpc Htc hlt hnl ⊢
  have Hpl := Lib.hid hpl
  have Hts := Lib.hid hts
  have Htr := Lib.hid htr
  have Hnp := Lib.hid hnp
  have Hnt := Lib.hid hnt
  have Hnl := Lib.hid hnl
  have Hatr := Lib.hid hatr
  have hsi : ¬ (40 : Int) < (s.size : Int) := by omega
  have hsb : decide ((40 : Int) < (s.size : Int)) = false := decide_eq_false hsi
  have hsc : decide (40 < s.size) = false := decide_eq_false (by omega)
  clear hpl hts htr hnp hnt hnl hatr hbig
  go_enter Try.func7, Try.ntmps7
  go_wp2_with fail
  refine (awake_any _).mono ?_
  rintro e w1 ⟨rfl, hb⟩
  have hi : InBox w w1 (.slice ap np cp) (.slice at_ nt ct) := (InBox.start _ _ _).go hb
  have b0 := hi.c0
  have b1 := hi.c1
  have Hi := Lib.hid hi
  clear hb hi
  go_wp2_with fail
  refine (Hsm.out _ Hi.out.old).mono ?_
  rintro e w2 ⟨rfl, hb⟩
  have Hi2 := Lib.hid (Hi.out.go hb)
  clear hb b0 b1
  have b0 := Hi2.out.c0
  have b1 := Hi2.out.c1
  go_wp2_with fail
  refine (Hnm.out _ Hi2.out.old).mono ?_
  rintro e w3 ⟨v, rfl, hown, hb⟩
  have hi3 := Hi2.out.go hb
  have hrow : StrsAt w3 v n.names := RowAt.of_own hown
  obtain ⟨av, cv, hv⟩ := RowAt.len hrow
  subst hv
  have Hin3 : Hid (InN w w3 (.slice av n.names.length cv) n (.slice ap np cp) (.slice at_ nt ct)) := Lib.hid ⟨hi3, hrow⟩
  clear hown hb hrow b0 b1 hi3
  have b0 := Hin3.out.box.c0
  have b1 := Hin3.out.box.c1
  rw [Hnl.out] at Hin3 ⊢
  go_wp2
  clear b0 b1
  go_loopw [6, 8] (fun p i wr => ∃ z : Int, -1 ≤ z ∧ z < np ∧ i = .int .i64 z ∧ InN w wr (.slice av (np + nt) cv) n (.slice ap np cp) (.slice at_ nt ct) ∧ p = .int .i64 (idxFrom (plHas s) n.places (z + 1).toNat)) (fun _ i _ => (intOf i + 1).toNat)
  case atStart => exact ⟨(np : Int) - 1, by omega, by omega, by go_num, Hin3.out, by rw [idxFrom_end _ _ _ (by rw [← Hnp.out]; omega)]⟩
  case round =>
    rename World => v1
    obtain ⟨z, hz0, hz1, rfl, hin, rfl⟩ := hrel
    have b0 := hin.box.c0
    have b1 := hin.box.c1
    by_cases hge : 0 ≤ z
    · obtain ⟨k, rfl⟩ : ∃ k : Nat, z = k := ⟨z.toNat, by omega⟩
      have hk : k < np := by omega
      obtain ⟨x, hx⟩ := at_lt (l := n.places) (k := k) (by rw [← Hnp.out]; exact hk)
      obtain ⟨b, off, rfl, hbw, e0, e1⟩ := PlsAt.at_ (PlsAt.below Hpl.out hin.box.old) hx
      obtain ⟨b', off', hav, hbw', f0⟩ := StrsAt.at_ hin.names (names_at_pl hx)
      subst hav
      have hki : (k : Int) < (np : Int) := by omega
      have hki2 : (k : Int) < (np : Int) + (nt : Int) := by omega
      have hki3 : k < np + nt := by omega
      have Hin := Lib.hid hin
      have Hx := Lib.hid hx
      obtain ⟨q, hq⟩ : ∃ q, q = idxFrom (plHas s) n.places ((k : Int) + 1).toNat := ⟨_, rfl⟩
      have Hq : Hid (q = idxFrom (plHas s) n.places (k + 1)) := Lib.hid (by rw [hq]; congr 1)
      rw [← hq]
      have hne : (x.name.toList != x.name.toList) = false := by simp
      clear hin hx hq
      cases hf : sEq x.name s with
      | true =>
        have Hr : Hid (idxFrom (plHas s) n.places k = (k : Int)) := Lib.hid (idxFrom_yes Hx.out hf)
        have hf2 : (x.name.toList == s.toList) = true := by rw [sEq_toList]; exact hf
        clear hf
        go_wp2
        go_quiet (fail)
        go_wp2
        go_roundw
        case rel => exact ⟨(k : Int) - 1, by omega, by omega, by go_num, Hin.out.go (drewN_below _ _), by rw [show ((k : Int) - 1 + 1).toNat = k by omega, Hr.out]⟩
        case measure => simp [intOf]
      | false =>
        have Hr : Hid (idxFrom (plHas s) n.places k = q) := Lib.hid (by rw [Hq.out]; exact idxFrom_no Hx.out hf)
        have hf2 : (x.name.toList == s.toList) = false := by rw [sEq_toList]; exact hf
        clear hf
        go_wp2
        go_quiet (fail)
        go_wp2
        go_roundw
        case rel => exact ⟨(k : Int) - 1, by omega, by omega, by go_num, Hin.out.go (drewN_below _ _), by rw [show ((k : Int) - 1 + 1).toNat = k by omega, Hr.out]⟩
        case measure => simp [intOf]
    · obtain rfl : z = -1 := by omega
      have Hin := Lib.hid hin
      obtain ⟨q, hq⟩ : ∃ q, q = idxFrom (plHas s) n.places ((-1 : Int) + 1).toNat := ⟨_, rfl⟩
      have Hq : Hid (idxOf (plHas s) n.places = q) := Lib.hid (by rw [hq]; rfl)
      rw [← hq]
      clear hin hq
      go_wp2
      clear b0 b1
      go_loopw [7, 9] (fun p i wr => ∃ z : Int, -1 ≤ z ∧ z < nt ∧ i = .int .i64 z ∧ InN w wr (.slice av (np + nt) cv) n (.slice ap np cp) (.slice at_ nt ct) ∧ p = .int .i64 (idxFrom (trHas s) n.trans (z + 1).toNat)) (fun _ i _ => (intOf i + 1).toNat)
      case atStart => exact ⟨(nt : Int) - 1, by omega, by omega, by go_num, Hin.out, by rw [idxFrom_end _ _ _ (by rw [← Hnt.out]; omega)]⟩
      case round =>
        rename World => v2
        obtain ⟨z, hz0, hz1, rfl, hin, rfl⟩ := hrel
        have b0 := hin.box.c0
        have b1 := hin.box.c1
        by_cases hge : 0 ≤ z
        · obtain ⟨k, rfl⟩ : ∃ k : Nat, z = k := ⟨z.toNat, by omega⟩
          have hk : k < nt := by omega
          obtain ⟨t, ht⟩ := at_lt (l := n.trans) (k := k) (by rw [← Hnt.out]; exact hk)
          obtain ⟨b, off, a1, c1, a2, c2, a3, c3, rfl, hbw, e0, e1, e2, e3, e4, e5, _, _, _⟩ := (Htr.out.below hin.box.old).at_ (i := k) (t := t) (by rw [Hts.out]; exact ht)
          obtain ⟨b', off', hav, hbw', f0⟩ := StrsAt.at_ hin.names (Hatr.out k t ht)
          subst hav
          have hki : (k : Int) < (nt : Int) := by omega
          have hki2 : (np : Int) + (k : Int) < (np : Int) + (nt : Int) := by omega
          have hki3 : np + k < np + nt := by omega
          have Hin := Lib.hid hin
          have Hx := Lib.hid ht
          obtain ⟨r, hr⟩ : ∃ q, q = idxFrom (trHas s) n.trans ((k : Int) + 1).toNat := ⟨_, rfl⟩
          have Hr0 : Hid (r = idxFrom (trHas s) n.trans (k + 1)) := Lib.hid (by rw [hr]; congr 1)
          rw [← hr]
          have hne : (t.name.toList != t.name.toList) = false := by simp
          clear hin ht hr
          have hsum1 : IntKind.i64.wrap ((np : Int) + (k : Int)) = (np : Int) + (k : Int) := IntWalk.i64_in _ (by omega)
          have hsum2 : 0 ≤ (np : Int) + (k : Int) := by omega
          have hsum3 : ((np : Int) + (k : Int)).toNat = np + k := by omega
          cases hf : sEq t.name s with
          | true =>
            have Hr : Hid (idxFrom (trHas s) n.trans k = (k : Int)) := Lib.hid (idxFrom_yes Hx.out hf)
            have hf2 : (t.name.toList == s.toList) = true := by rw [sEq_toList]; exact hf
            clear hf
            go_wp2
            go_quiet (fail)
            clear hsum1 hsum2 hsum3
            go_wp2
            go_roundw
            case rel => exact ⟨(k : Int) - 1, by omega, by omega, by go_num, Hin.out.go (drewN_below _ _), by rw [show ((k : Int) - 1 + 1).toNat = k by omega, Hr.out]⟩
            case measure => simp [intOf]
          | false =>
            have Hr : Hid (idxFrom (trHas s) n.trans k = r) := Lib.hid (by rw [Hr0.out]; exact idxFrom_no Hx.out hf)
            have hf2 : (t.name.toList == s.toList) = false := by rw [sEq_toList]; exact hf
            clear hf
            go_wp2
            go_quiet (fail)
            clear hsum1 hsum2 hsum3
            go_wp2
            go_roundw
            case rel => exact ⟨(k : Int) - 1, by omega, by omega, by go_num, Hin.out.go (drewN_below _ _), by rw [show ((k : Int) - 1 + 1).toNat = k by omega, Hr.out]⟩
            case measure => simp [intOf]
        · obtain rfl : z = -1 := by omega
          have Hin := Lib.hid hin
          obtain ⟨r, hr⟩ : ∃ q, q = idxFrom (trHas s) n.trans ((-1 : Int) + 1).toNat := ⟨_, rfl⟩
          have Hr0 : Hid (idxOf (trHas s) n.trans = r) := Lib.hid (by rw [hr]; rfl)
          rw [← hr]
          rw [Hq.out] at Hpc
          rw [Hr0.out] at Htc
          clear hin hr
          go_wp2_with fail
          refine (Hpc.out _ Hin.out.box.old).mono ?_
          rintro e w5 ⟨rfl, hb⟩
          have Hin5 := Lib.hid (Hin.out.go hb)
          clear hb b0 b1
          have b0 := Hin5.out.box.c0
          have b1 := Hin5.out.box.c1
          go_wp2_with fail
          refine (Htc.out _ Hin5.out.box.old).mono ?_
          rintro e w6 ⟨rfl, hb⟩
          have Hin6 := Lib.hid (Hin5.out.go hb)
          clear hb
          go_wp2
          go_ret
          exact ⟨by simp, Hin6.out.box.old⟩

set_option maxRecDepth 100000 in
set_option maxHeartbeats 2000000 in
theorem names_lawB {w : World} {n : Nt} {ap at_ : Option Addr} {cp ct : Nat} {s : ByteArray} (h : NetAt w (.slice ap n.places.length cp) (.slice at_ n.trans.length ct) n) (hbig : bigN n = true ∨ (bigN n = false ∧ 40 < s.size)) :
    Calls Try.prog 7 #[.agg #[.slice ap n.places.length cp, .slice at_ n.trans.length ct], .string s] w fun e w' => e = .returned (.bool true) ∧ Below w.heap.size w w' := by
  have Hsm : Hid (∀ W : World, Below w.heap.size w W → Calls Try.prog 11 #[.agg #[.slice ap n.places.length cp, .slice at_ n.trans.length ct]] W fun e w' => e = .returned (.bool (!bigN n)) ∧ Below W.heap.size W w') := Lib.hid (fun W hW => small_any (h.below hW))
  obtain ⟨np, hnp⟩ : ∃ k, k = n.places.length := ⟨_, rfl⟩
  obtain ⟨nt, hnt⟩ : ∃ k, k = n.trans.length := ⟨_, rfl⟩
  rw [← hnp, ← hnt] at Hsm ⊢
  clear h hnp hnt
  rcases hbig with hbig | ⟨hbig, h40⟩
  · rw [hbig] at Hsm
    clear hbig
    go_enter Try.func7, Try.ntmps7
    go_wp2_with fail
    refine (awake_any _).mono ?_
    rintro e w1 ⟨rfl, hb⟩
    have hi : InBox w w1 (.slice ap np cp) (.slice at_ nt ct) := (InBox.start _ _ _).go hb
    have b0 := hi.c0
    have b1 := hi.c1
    have Hi := Lib.hid hi
    clear hb hi
    go_wp2_with fail
    refine (Hsm.out _ Hi.out.old).mono ?_
    rintro e w2 ⟨rfl, hb⟩
    have Hi2 := Lib.hid (Hi.out.go hb)
    clear hb
    go_wp2_with fail
    refine (awake_any _).mono ?_
    rintro e w3 ⟨rfl, hb⟩
    have Hi3 := Lib.hid (Hi2.out.go hb)
    clear hb
    go_wp2
    go_ret
    exact ⟨rfl, Hi3.out.old⟩
  · rw [hbig] at Hsm
    clear hbig
    have hsi : (40 : Int) < (s.size : Int) := by omega
    go_enter Try.func7, Try.ntmps7
    go_wp2_with fail
    refine (awake_any _).mono ?_
    rintro e w1 ⟨rfl, hb⟩
    have hi : InBox w w1 (.slice ap np cp) (.slice at_ nt ct) := (InBox.start _ _ _).go hb
    have b0 := hi.c0
    have b1 := hi.c1
    have Hi := Lib.hid hi
    clear hb hi
    go_wp2_with fail
    refine (Hsm.out _ Hi.out.old).mono ?_
    rintro e w2 ⟨rfl, hb⟩
    have Hi2 := Lib.hid (Hi.out.go hb)
    clear hb
    go_wp2_with fail
    refine (awake_any _).mono ?_
    rintro e w3 ⟨rfl, hb⟩
    have Hi3 := Lib.hid (Hi2.out.go hb)
    clear hb
    go_wp2
    go_ret
    exact ⟨rfl, Hi3.out.old⟩

theorem names_netlaw {w : World} {n : Nt} {ap at_ : Option Addr} {cp ct : Nat} (s : ByteArray) (h : NetAt w (.slice ap n.places.length cp) (.slice at_ n.trans.length ct) n) :
    Calls Try.prog 7 #[.agg #[.slice ap n.places.length cp, .slice at_ n.trans.length ct], .string s] w fun e w' => e = .returned (.bool true) ∧ Below w.heap.size w w' := by
  cases hbig : bigN n with
  | true => exact names_lawB h (.inl hbig)
  | false =>
    by_cases hs : s.size ≤ 40
    · exact names_lawS h hbig hs
    · exact names_lawB h (.inr ⟨hbig, by omega⟩)
end Go.Proofs.Ytjkkddocopolcaa
