/-
  What net.Copy comes to: a net of the call's own, the same.
  Conditions: none beyond each theorem's own.
-/
import Derived.Test.YtpbbdnicafifpaaCopyA
import Derived.Deep.RegionLaw
namespace Go.Proofs.Ytpbbdnicafifpaa
open Go.RowKit
set_option linter.unusedVariables false

section
variable {w W0 w1 w2 : World} {n0 n1 vp vt : Value} {ps : List Pl} {lt : List (Tr × Value × Value × Value)}
def cp0 (w : World) (n0 n1 : Value) : List Row := [boxRow w.heap.size 31 [n0, n1], boxRow (w.heap.size + 1) 31 [.slice none 0 0, .slice none 0 0]]
theorem cp0_start (w : World) (n0 n1 : Value) : AllOwn w.heap.size ((w.alloc (.cells #[n0, n1] 31)).alloc (.cells #[.slice none 0 0, .slice none 0 0] 31)) (cp0 w n0 n1) ∧ Below w.heap.size w ((w.alloc (.cells #[n0, n1] 31)).alloc (.cells #[.slice none 0 0, .slice none 0 0] 31)) := by
  have hs1 : (w.alloc (.cells #[n0, n1] 31)).heap.size = w.heap.size + 1 := by simp
  have h1 := (AllOwn.nil w.heap.size w).add ((Below.refl _ w).alloc (Nat.le_refl _) _) (boxRow.new w.heap.size w 31 #[n0, n1] (Nat.le_refl _)) (fun k e => by injection e with e; subst e; exact Nat.le_refl _)
  have h2 := h1.add ((Below.refl _ _).alloc (Nat.le_refl _) _) (boxRow.new w.heap.size _ 31 #[.slice none 0 0, .slice none 0 0] (by simp <;> omega)) (fun k e => by injection e with e; subst e; exact Nat.le_refl _)
  rw [hs1] at h2
  exact ⟨h2, ((Below.refl _ w).alloc (Nat.le_refl _) _).alloc (by simp) _⟩

theorem Cp.start1 (h0 : AllOwn w.heap.size W0 (cp0 w n0 n1)) (hb : Below w.heap.size w W0) (hb1 : Below W0.heap.size W0 w1) (hp : w1.ownsRow W0.heap.size 57 2 vp ps.length (ps.flatMap plL)) (hb2 : Below w1.heap.size w1 w2) (ht : w2.ownsRow w1.heap.size 79 6 vt lt.length (lt.flatMap trL)) :
    Cp w (w2.alloc (.cells #[vp, vt] 31)) n0 n1 w2.heap.size vp vt ps lt [] := by
  have hle := hb.size
  have hle1 := Nat.le_trans hle hb1.size
  have hle2 := Nat.le_trans hle1 hb2.size
  have h1 := h0.add hb1 (r := plRow vp ps) (own_mono hp hle) (fun q e => (Row.lt (r := plRow vp ps) hp e).1)
  have h2 := h1.add hb2 (r := trRow vt lt) (own_mono ht hle1) (fun q e => (Row.lt (r := trRow vt lt) ht e).1)
  have h3 := h2.add ((Below.refl _ _).alloc (Nat.le_refl _) _) (boxRow.new w.heap.size w2 31 #[vp, vt] hle2) (fun k e => by injection e with e; subst e; exact Nat.le_refl _)
  refine ⟨h3.perm ?_, ((hb.trans (hb1.mono hle)).trans (hb2.mono hle1)).alloc hle2 _⟩
  unfold cpRows cp0
  simp only [List.cons_append, List.nil_append]
  exact ((List.Perm.swap _ _ _).cons _ |>.cons _ |>.cons _)

theorem Cp.start2 (h0 : AllOwn w.heap.size W0 (cp0 w n0 n1)) (hb : Below w.heap.size w W0) (hb1 : Below W0.heap.size W0 w1) (ht : w1.ownsRow W0.heap.size 79 6 vt lt.length (lt.flatMap trL)) (hb2 : Below w1.heap.size w1 w2) (hp : w2.ownsRow w1.heap.size 57 2 vp ps.length (ps.flatMap plL)) :
    Cp w (w2.alloc (.cells #[vp, vt] 31)) n0 n1 w2.heap.size vp vt ps lt [] := by
  have hle := hb.size
  have hle1 := Nat.le_trans hle hb1.size
  have hle2 := Nat.le_trans hle1 hb2.size
  have h1 := h0.add hb1 (r := trRow vt lt) (own_mono ht hle) (fun q e => (Row.lt (r := trRow vt lt) ht e).1)
  have h2 := h1.add hb2 (r := plRow vp ps) (own_mono hp hle1) (fun q e => (Row.lt (r := plRow vp ps) hp e).1)
  have h3 := h2.add ((Below.refl _ _).alloc (Nat.le_refl _) _) (boxRow.new w.heap.size w2 31 #[vp, vt] hle2) (fun k e => by injection e with e; subst e; exact Nat.le_refl _)
  refine ⟨h3.perm ?_, ((hb.trans (hb1.mono hle)).trans (hb2.mono hle1)).alloc hle2 _⟩
  unfold cpRows cp0
  simp only [List.cons_append, List.nil_append]
  refine List.Perm.cons _ (List.Perm.cons _ ?_)
  exact (List.Perm.swap _ _ _).trans ((List.Perm.swap _ _ _).cons _)
end

/-- a box that was made just ahead of what only makes new memory -/
theorem box_after {X w' : World} {cs : Array Value} {t : TypeId} (hb : Below (X.alloc (.cells cs t)).heap.size (X.alloc (.cells cs t)) w') : (∀ B, B ≤ X.heap.size → (boxRow X.heap.size t cs.toList).own B w') ∧ X.heap.size < w'.heap.size :=
  ⟨fun B hB => ownS (S := fun _ => False) (boxRow.new B X t cs hB) (Kept.of_below hb) (fun _ _ e => e), by have := hb.size; simp at this; omega⟩

theorem box_afterD {X w' : World} {cs : Array Value} {t : TypeId} (hb : Below (X.alloc (.cells cs t)).drew.heap.size (X.alloc (.cells cs t)).drew w') : (∀ B, B ≤ X.heap.size → (boxRow X.heap.size t cs.toList).own B w') ∧ X.heap.size < w'.heap.size := box_after (X := X.drew) hb

theorem below_of_alloc {w w' : World} {o : Obj} (h : Below (w.alloc o).heap.size (w.alloc o) w') : Below w.heap.size w w' := ((Below.refl w.heap.size w).alloc (Nat.le_refl _) o).trans (h.mono (by simp))
theorem bcell {w w' : World} {b o : Nat} {v : Value} (hc : w.cell? ⟨b, o, none⟩ = some v) (hl : b < w.heap.size) (h : Below w.heap.size w w') : w'.cell? ⟨b, o, none⟩ = some v := (h.cell (p := ⟨b, o, none⟩) hl).trans hc
theorem bfroz {w w' : World} {b o : Nat} (hc : w.frozen? ⟨b, o, none⟩ = false) (hl : b < w.heap.size) (h : Below w.heap.size w w') : w'.frozen? ⟨b, o, none⟩ = false := (h.frozen (p := ⟨b, o, none⟩) hl).trans hc

theorem Cp.fin {w W0 w2 : World} {n0 n1 vp vt : Value} {ps : List Pl} {lt : List (Tr × Value × Value × Value)} {bc : Nat} (h0 : AllOwn w.heap.size W0 (cp0 w n0 n1)) (hb : Below w.heap.size w W0) (hW : Below W0.heap.size W0 w2)
    (hp : (plRow vp ps).own W0.heap.size w2) (ht : (trRow vt lt).own W0.heap.size w2) (hx : (boxRow bc 31 [.slice none 0 0, .slice none 0 0]).own W0.heap.size w2)
    (a1 : ∀ k, vp.ownBlock = some k → k ≠ bc) (a2 : ∀ k, vt.ownBlock = some k → k ≠ bc) (a3 : ∀ k, vp.ownBlock = some k → vt.ownBlock = some k → False) :
    Cp w ((w2.setCell ⟨bc, 0, none⟩ vp).setCell ⟨bc, 1, none⟩ vt) n0 n1 bc vp vt ps lt [] := by
  have hle := hb.size
  have h1 := h0.below hW
  have hlo : ∀ r ∈ cp0 w n0 n1, ∀ k, r.v.ownBlock = some k → k < W0.heap.size := fun r hr k e => (Row.lt (h0.own r hr) e).2
  have h2 : AllOwn w.heap.size w2 (cp0 w n0 n1 ++ plRow vp ps :: boxRow bc 31 [.slice none 0 0, .slice none 0 0] :: [trRow vt lt]) := by
    refine ⟨fun r hr => ?_, ?_⟩
    · rw [List.mem_append, List.mem_cons, List.mem_cons, List.mem_singleton] at hr
      rcases hr with hr | rfl | rfl | rfl
      · exact h1.own r hr
      · exact own_mono hp hle
      · exact own_mono hx hle
      · exact own_mono ht hle
    · rw [List.pairwise_append]
      refine ⟨h1.apart, ?_, ?_⟩
      · rw [List.pairwise_cons, List.pairwise_cons]
        refine ⟨?_, ?_, List.pairwise_singleton _ _⟩
        · intro r hr k e1 e2
          rw [List.mem_cons, List.mem_singleton] at hr
          rcases hr with rfl | rfl
          · injection e2 with e2; exact a1 k e1 e2.symm
          · exact a3 k e1 e2
        · intro r hr k e1 e2
          rw [List.mem_singleton] at hr
          subst hr
          injection e1 with e1; exact a2 k e2 e1.symm
      · intro r hr r' hr' k e1 e2
        have := hlo r hr k e1
        rw [List.mem_cons, List.mem_cons, List.mem_singleton] at hr'
        rcases hr' with rfl | rfl | rfl
        · have := (Row.lt hp e2).1; omega
        · have := (Row.lt hx e2).1; omega
        · have := (Row.lt ht e2).1; omega
  have h3 := AllOwn.store (pre := cp0 w n0 n1 ++ [plRow vp ps]) (b := bc) (t := 31) (cs := [.slice none 0 0, .slice none 0 0]) (post := [trRow vt lt]) (by simpa using h2) 0 vp
  have h4 := AllOwn.store (pre := cp0 w n0 n1 ++ [plRow vp ps]) (b := bc) (t := 31) (post := [trRow vt lt]) h3.1 1 vt
  have hbc := (Row.lt hx (k := bc) rfl).1
  exact ⟨by simpa [cpRows, cp0] using h4.1, (hb.trans (hW.mono hle)).trans ((h3.2.trans h4.2).below (fun k e => by omega) (Nat.le_trans hle hW.size))⟩

section
variable {w W0 w1 w2 : World} {n0 n1 vp vt : Value} {ps : List Pl} {lt : List (Tr × Value × Value × Value)} {bc bP bT : Nat}
theorem row_to {B C : Nat} {w w' : World} {r : Row} (h : r.own B w) (hb : Below w.heap.size w w') (hC : C ≤ B) : r.own C w' := own_mono (ownS (S := fun _ => False) h (Kept.of_below hb) (fun _ _ e => e)) hC
theorem Cp.finPT (h0 : AllOwn w.heap.size W0 (cp0 w n0 n1)) (hb : Below w.heap.size w W0) (hP : Below W0.heap.size W0 w1) (hT : Below w1.heap.size w1 w2)
    (hp : w1.ownsRow bP 57 2 vp ps.length (ps.flatMap plL)) (ht : w2.ownsRow bT 79 6 vt lt.length (lt.flatMap trL)) (h1 : W0.heap.size ≤ bP) (h2 : w1.heap.size ≤ bT)
    (hx : (boxRow bc 31 [.slice none 0 0, .slice none 0 0]).own W0.heap.size w2) (h3 : (bc < bP ∨ w1.heap.size ≤ bc) ∧ bc < bT) :
    Cp w ((w2.setCell ⟨bc, 0, none⟩ vp).setCell ⟨bc, 1, none⟩ vt) n0 n1 bc vp vt ps lt [] :=
  Cp.fin h0 hb (hP.trans (hT.mono hP.size)) (row_to (r := plRow vp ps) hp hT h1) (own_mono ht (Nat.le_trans hP.size h2)) hx
    (fun k e => by have := Row.lt (r := plRow vp ps) hp e; omega) (fun k e => by have := Row.lt (r := trRow vt lt) ht e; omega)
    (fun k e e' => by have := Row.lt (r := plRow vp ps) hp e; have := Row.lt (r := trRow vt lt) ht e'; omega)
theorem Cp.finTP (h0 : AllOwn w.heap.size W0 (cp0 w n0 n1)) (hb : Below w.heap.size w W0) (hT : Below W0.heap.size W0 w2) (hP : Below w2.heap.size w2 w1)
    (ht : w2.ownsRow bT 79 6 vt lt.length (lt.flatMap trL)) (hp : w1.ownsRow bP 57 2 vp ps.length (ps.flatMap plL)) (h1 : W0.heap.size ≤ bT) (h2 : w2.heap.size ≤ bP)
    (hx : (boxRow bc 31 [.slice none 0 0, .slice none 0 0]).own W0.heap.size w1) (h3 : (bc < bT ∨ w2.heap.size ≤ bc) ∧ bc < bP) :
    Cp w ((w1.setCell ⟨bc, 0, none⟩ vp).setCell ⟨bc, 1, none⟩ vt) n0 n1 bc vp vt ps lt [] :=
  Cp.fin h0 hb (hT.trans (hP.mono hT.size)) (own_mono hp (Nat.le_trans hT.size h2)) (row_to (r := trRow vt lt) ht hP h1) hx
    (fun k e => by have := Row.lt (r := plRow vp ps) hp e; omega) (fun k e => by have := Row.lt (r := trRow vt lt) ht e; omega)
    (fun k e e' => by have := Row.lt (r := plRow vp ps) hp e; have := Row.lt (r := trRow vt lt) ht e'; omega)
end

theorem Cp.finish {w wr : World} {n0 n1 vp vt : Value} {bc : Nat} {ps : List Pl} {cl : List (Tr × Value × Value × Value)} {more : List Row} (h : Cp w wr n0 n1 bc vp vt ps cl more) (hs : (cl.flatMap arcRows).Sublist more) :
    AllOwn w.heap.size ((wr.setCell ⟨w.heap.size + 1, 0, none⟩ vp).setCell ⟨w.heap.size + 1, 1, none⟩ vt) (netRows vp vt ps cl) ∧ Below w.heap.size w ((wr.setCell ⟨w.heap.size + 1, 0, none⟩ vp).setCell ⟨w.heap.size + 1, 1, none⟩ vt) ∧
    ((wr.setCell ⟨w.heap.size + 1, 0, none⟩ vp).setCell ⟨w.heap.size + 1, 1, none⟩ vt).cell? ⟨w.heap.size + 1, 0, none⟩ = some vp ∧ ((wr.setCell ⟨w.heap.size + 1, 0, none⟩ vp).setCell ⟨w.heap.size + 1, 1, none⟩ vt).cell? ⟨w.heap.size + 1, 1, none⟩ = some vt := by
  have h1 := AllOwn.store (pre := [boxRow w.heap.size 31 [n0, n1]]) (b := w.heap.size + 1) (t := 31) (cs := [.slice none 0 0, .slice none 0 0]) (post := plRow vp ps :: boxRow bc 31 [vp, vt] :: trRow vt cl :: more) h.all 0 vp
  have h2 := AllOwn.store (pre := [boxRow w.heap.size 31 [n0, n1]]) (b := w.heap.size + 1) (t := 31) (post := plRow vp ps :: boxRow bc 31 [vp, vt] :: trRow vt cl :: more) h1.1 1 vt
  have hb := h2.1.own (boxRow (w.heap.size + 1) 31 [vp, vt]) (List.mem_append_right _ (List.mem_cons_self ..))
  refine ⟨h2.1.sub ?_, h.below.trans ((h1.2.trans h2.2).below (fun k e => by omega) h.below.size), boxRow.cell hb rfl, boxRow.cell hb rfl⟩
  unfold netRows
  exact (((((hs.cons_cons _).cons _).cons_cons _).cons _).cons _)

set_option maxRecDepth 100000 in
set_option maxHeartbeats 4000000 in
theorem copy_any {w : World} {n : Nt} {ap at_ : Option Addr} {cp ct np nt : Nat} (hnp : np = n.places.length) (hnt : nt = n.trans.length) (hp1 : np ≤ 1000000) (ht1 : nt ≤ 1000000) (hlen : ∀ t ∈ n.trans, t.inn.length ≤ 1000000 ∧ t.nt.length ≤ 1000000 ∧ t.out.length ≤ 1000000) (h : NetAt w (.slice ap np cp) (.slice at_ nt ct) n) :
    Calls Try.prog 58 #[.agg #[.slice ap np cp, .slice at_ nt ct]] w fun e w' => ∃ vp vt, e = .returned (.agg #[vp, vt]) ∧ NetOwn w.heap.size w' vp vt n ∧ Below w.heap.size w w' := by
  obtain ⟨hpl, lt, hl, ht⟩ := h
  have hll : lt.length = nt := by rw [hnt, ← hl, List.length_map]
  have Hll := Lib.hid hll
  have Hnp := Lib.hid hnp
  have Hpl := Lib.hid hpl
  have Hl := Lib.hid hl
  have Ht := Lib.hid ht
  have Hlen := Lib.hid hlen
  obtain ⟨hA, hB⟩ := cp0_start w (.slice ap np cp) (.slice at_ nt ct)
  obtain ⟨W0, hW0⟩ : ∃ W0, W0 = (w.alloc (.cells #[.slice ap np cp, .slice at_ nt ct] 31)).alloc (.cells #[.slice none 0 0, .slice none 0 0] 31) := ⟨_, rfl⟩
  rw [← hW0] at hA hB
  have HA := Lib.hid hA
  have HB := Lib.hid hB
  have HcP : Hid (∀ W : World, Below W0.heap.size W0 W → Calls Try.prog 81 #[.slice ap np cp] W fun e w' => ∃ a' n' c', e = .returned (.slice a' n' c') ∧ w'.ownsRow W.heap.size 57 2 (.slice a' n' c') n.places.length (n.places.flatMap plL) ∧ Below W.heap.size W w') :=
    Lib.hid (fun W hW => clonePls_any (hpl.below (hB.trans (hW.mono hB.size))) (by rw [← hnp]; exact hp1))
  have HcT : Hid (∀ W : World, Below W0.heap.size W0 W → Calls Try.prog 82 #[.slice at_ nt ct] W fun e w' => ∃ a' n' c', e = .returned (.slice a' n' c') ∧ w'.ownsRow W.heap.size 79 6 (.slice a' n' c') lt.length (lt.flatMap trL) ∧ Below W.heap.size W w') :=
    Lib.hid (fun W hW => cloneTrs_any (ht.below (hB.trans (hW.mono hB.size))) (by rw [hll]; exact ht1))
  have e0 := boxRow.cell (hA.own (boxRow w.heap.size 31 [.slice ap np cp, .slice at_ nt ct]) (by simp [cp0])) (j := 0) rfl
  have e1 := boxRow.cell (hA.own (boxRow w.heap.size 31 [.slice ap np cp, .slice at_ nt ct]) (by simp [cp0])) (j := 1) rfl
  have elt := (boxRow.lt (hA.own (boxRow w.heap.size 31 [.slice ap np cp, .slice at_ nt ct]) (by simp [cp0]))).2
  have HW0 := Lib.hid hW0
  clear hpl hl ht hnp hnt hll hA hB hlen hW0
  go_enter Try.func58, Try.ntmps58
  go_upto_region 1 with (fail)
  rw [← HW0.out]
  clear HW0
  have Hd : Hid (Below W0.heap.size W0 W0.drew) := Lib.hid (Below.refl _ _).drew
  go_cut [3] from 6 to 12 (fun s3 wc => ∃ bc a1 m1 c1 a2 m2 c2, s3 = .pointer (some ⟨bc, 0, none⟩) ∧ Cp w wc (.slice ap np cp) (.slice at_ nt ct) bc (.slice a1 m1 c1) (.slice a2 m2 c2) n.places lt [])
  case first =>
    go_region_law (first | (go_simp; go_at_call 81; refine (HcP.out _ (by first | exact Hd.out | exact Hd.out.alloc Hd.out.size _ | exact HbT.out | exact HbT.out.alloc HbT.out.size _)).mono ?_; rintro e w1 ⟨a1, m1, k1, rfl, ho1, hb1⟩; have HbP0 := Lib.hid hb1; have HoP := Lib.hid ho1; (try have HbP1 : Hid (Below w2.heap.size w2 w1) := Lib.hid (by first | exact hb1 | exact below_of_alloc hb1)); have HbP : Hid (Below W0.heap.size W0 w1) := Lib.hid (by first | exact Hd.out.trans hb1 | exact (Hd.out.alloc Hd.out.size _).trans (hb1.mono (Hd.out.alloc Hd.out.size _).size) | exact HbT.out.trans (hb1.mono HbT.out.size) | exact (HbT.out.alloc HbT.out.size _).trans (hb1.mono (HbT.out.alloc HbT.out.size _).size)); have kP0 := (HbP.out.cell (p := ⟨w.heap.size, 0, none⟩) elt).trans e0; have kP1 := (HbP.out.cell (p := ⟨w.heap.size, 1, none⟩) elt).trans e1; have sP := Nat.lt_of_lt_of_le elt HbP.out.size; (try first | have bxP := Lib.hid (box_afterD hb1) | have bxP := Lib.hid (box_after hb1)); (try (have gP0 := boxRow.cell (bxP.out.1 0 (Nat.zero_le _)) (j := 0) rfl; have gP1 := boxRow.cell (bxP.out.1 0 (Nat.zero_le _)) (j := 1) rfl; have fP0 := boxRow.froz (bxP.out.1 0 (Nat.zero_le _)) 0; have fP1 := boxRow.froz (bxP.out.1 0 (Nat.zero_le _)) 1; have lP := bxP.out.2)); (try (have gP0 := bcell gT0 lT HbP0.out; have gP1 := bcell gT1 lT HbP0.out; have fP0 := bfroz fT0 lT HbP0.out; have fP1 := bfroz fT1 lT HbP0.out; have lP := Nat.lt_of_lt_of_le lT HbP0.out.size)); clear ho1 hb1) | (go_simp; go_at_call 82; refine (HcT.out _ (by first | exact Hd.out | exact Hd.out.alloc Hd.out.size _ | exact HbP.out | exact HbP.out.alloc HbP.out.size _)).mono ?_; rintro e w2 ⟨a2, m2, k2, rfl, ho2, hb2⟩; have HbT0 := Lib.hid hb2; have HoT := Lib.hid ho2; (try have HbT1 : Hid (Below w1.heap.size w1 w2) := Lib.hid (by first | exact hb2 | exact below_of_alloc hb2)); have HbT : Hid (Below W0.heap.size W0 w2) := Lib.hid (by first | exact Hd.out.trans hb2 | exact (Hd.out.alloc Hd.out.size _).trans (hb2.mono (Hd.out.alloc Hd.out.size _).size) | exact HbP.out.trans (hb2.mono HbP.out.size) | exact (HbP.out.alloc HbP.out.size _).trans (hb2.mono (HbP.out.alloc HbP.out.size _).size)); have kT0 := (HbT.out.cell (p := ⟨w.heap.size, 0, none⟩) elt).trans e0; have kT1 := (HbT.out.cell (p := ⟨w.heap.size, 1, none⟩) elt).trans e1; have sT := Nat.lt_of_lt_of_le elt HbT.out.size; (try first | have bxT := Lib.hid (box_afterD hb2) | have bxT := Lib.hid (box_after hb2)); (try (have gT0 := boxRow.cell (bxT.out.1 0 (Nat.zero_le _)) (j := 0) rfl; have gT1 := boxRow.cell (bxT.out.1 0 (Nat.zero_le _)) (j := 1) rfl; have fT0 := boxRow.froz (bxT.out.1 0 (Nat.zero_le _)) 0; have fT1 := boxRow.froz (bxT.out.1 0 (Nat.zero_le _)) 1; have lT := bxT.out.2)); (try (have gT0 := bcell gP0 lP HbT0.out; have gT1 := bcell gP1 lP HbT0.out; have fT0 := bfroz fP0 lP HbT0.out; have fT1 := bfroz fP1 lP HbT0.out; have lT := Nat.lt_of_lt_of_le lP HbT0.out.size)); clear ho2 hb2))
    all_goals
      go_wp2
      go_meet
      case rel => first
        | exact ⟨_, _, _, _, _, _, _, rfl, Cp.start1 HA.out HB.out HbP.out HoP.out HbT0.out HoT.out⟩
        | exact ⟨_, _, _, _, _, _, _, rfl, Cp.start2 HA.out HB.out HbT.out HoT.out HbP0.out HoP.out⟩
        | exact ⟨_, _, _, _, _, _, _, rfl, Cp.finPT HA.out HB.out HbP.out HbT1.out HoP.out HoT.out (by simp) (Nat.le_refl _) (row_to (bxP.out.1 W0.heap.size (Nat.le_refl _)) HbT1.out (Nat.le_refl _)) ⟨.inl (by simp), bxP.out.2⟩⟩
        | exact ⟨_, _, _, _, _, _, _, rfl, Cp.finPT HA.out HB.out HbP.out HbT1.out HoP.out HoT.out (Nat.le_refl _) (by simp) (bxT.out.1 W0.heap.size HbP.out.size) ⟨.inr (Nat.le_refl _), by simp⟩⟩
        | exact ⟨_, _, _, _, _, _, _, rfl, Cp.finTP HA.out HB.out HbT.out HbP1.out HoT.out HoP.out (by simp) (Nat.le_refl _) (row_to (bxT.out.1 W0.heap.size (Nat.le_refl _)) HbP1.out (Nat.le_refl _)) ⟨.inl (by simp), bxT.out.2⟩⟩
        | exact ⟨_, _, _, _, _, _, _, rfl, Cp.finTP HA.out HB.out HbT.out HbP1.out HoT.out HoP.out (Nat.le_refl _) (by simp) (bxP.out.1 W0.heap.size HbT.out.size) ⟨.inr (Nat.le_refl _), by simp⟩⟩
  case rest =>
    obtain ⟨bc, a1, m1, k1, a2, m2, k2, rfl, hcp⟩ := hcut
    have em : m2 = nt := by
      obtain ⟨a, c, e⟩ := own_form (hcp.all.own (trRow (.slice a2 m2 k2) lt) (by simp [cpRows]))
      injection e with _ e _
      rw [e, ← Hll.out]; rfl
    subst em
    obtain ⟨c0, c1, hlt0, -⟩ := hcp.net
    have Hcp := Lib.hid hcp
    clear hcp e0 e1 elt HcP HcT Hd HA HB
    go_wp2
    clear c0 c1 hlt0
    go_loopw [16] (fun i wr => ∃ k : Nat, k ≤ m2 ∧ i = .int .i64 k ∧ ∃ (cl : List (Tr × Value × Value × Value)) (more : List Row), Cp w wr (.slice ap np cp) (.slice at_ m2 ct) bc (.slice a1 m1 k1) (.slice a2 m2 k2) n.places (cl ++ lt.drop k) more ∧ cl.map (·.1) = (lt.take k).map (·.1) ∧ (cl.flatMap arcRows).Sublist more) (fun i _ => m2 - (intOf i).toNat)
    case atStart => exact ⟨0, by omega, rfl, [], [], by simpa using Hcp.out, rfl, List.Sublist.refl _⟩
    case round =>
      rename World => v1
      obtain ⟨k, hk, rfl, cl, more, hcp, hcl, hsub⟩ := hrel
      have hcll : cl.length = k := by have := congrArg List.length hcl; simp at this; rw [this]; have := Hll.out; omega
      by_cases hlt : k < m2
      · have hlti : (k : Int) < (m2 : Int) := by omega
        obtain ⟨x, hx⟩ := at_lt (l := lt) (k := k) (by rw [Hll.out]; exact hlt)
        have htl : cl ++ lt.drop k = cl ++ x :: lt.drop (k + 1) := by rw [drop_at hx]
        rw [htl] at hcp
        obtain ⟨t, s1, s2, s3⟩ := x
        have hx2 : (cl ++ (t, s1, s2, s3) :: lt.drop (k + 1))[k]? = some (t, s1, s2, s3) := by rw [← hcll]; simp
        obtain ⟨b, c, ev, hbw, hbB, hcell, hfz⟩ := hcp.tr hx2
        have hlen2 : (cl ++ (t, s1, s2, s3) :: lt.drop (k + 1)).length = m2 := by simp; have := Hll.out; omega
        rw [hlen2] at ev
        injection ev with ev1 _ ev3
        subst ev1 ev3
        obtain ⟨f1, f2, f3⟩ := Ht.out.2 _ (List.mem_of_getElem? hx)
        obtain ⟨p1, q1, g1⟩ := RowAt.len f1
        obtain ⟨p2, q2, g2⟩ := RowAt.len f2
        obtain ⟨p3, q3, g3⟩ := RowAt.len f3
        simp only at f1 f2 f3 g1 g2 g3
        subst g1 g2 g3
        have e0 := hcell 0 _ rfl
        have e1 := hcell 1 _ rfl
        have e2 := hcell 2 _ rfl
        have e3 := hcell 3 _ rfl
        have e4 := hcell 4 _ rfl
        have e5 := hcell 5 _ rfl
        simp only [Nat.add_zero] at e0 e1 e2 e3 e4 e5
        obtain ⟨hl1, hl2, hl3⟩ := Hlen.out t (by rw [← Hl.out]; exact List.mem_map_of_mem (f := (·.1)) (List.mem_of_getElem? hx))
        have Hc : Hid (∀ W : World, Below w.heap.size w W → (∀ l v, ArcsAt w v l → l.length ≤ 1000000 → ∀ a n c, v = .slice a n c → Calls Try.prog 83 #[v] W fun e w' => ∃ a' n' c', e = .returned (.slice a' n' c') ∧ w'.ownsRow W.heap.size 76 2 (.slice a' n' c') l.length (l.flatMap arcL) ∧ Below W.heap.size W w')) :=
          Lib.hid (fun W hW l v hv hle a n c e => by subst e; exact cloneArcs_any (hv.below hW) hle)
        have F1 := Lib.hid f1
        have F2 := Lib.hid f2
        have F3 := Lib.hid f3
        obtain ⟨n1, hn1⟩ : ∃ n, n = t.inn.length := ⟨_, rfl⟩
        obtain ⟨n2, hn2⟩ : ∃ n, n = t.nt.length := ⟨_, rfl⟩
        obtain ⟨n3, hn3⟩ : ∃ n, n = t.out.length := ⟨_, rfl⟩
        rw [← hn1] at e3 F1 hcp
        rw [← hn2] at e4 F2 hcp
        rw [← hn3] at e5 F3 hcp
        have Hn1 := Lib.hid hn1
        have Hn2 := Lib.hid hn2
        have Hn3 := Lib.hid hn3
        have Hx := Lib.hid hx
        have Hcp1 := Lib.hid (hcp.box #[.string t.name, .int .i64 t.delay, .int .i64 t.prio, .slice p1 n1 q1, .slice p2 n2 q2, .slice p3 n3 q3] 79)
        obtain ⟨tb, htb⟩ : ∃ x, x = v1.heap.size := ⟨_, rfl⟩
        rw [← htb] at Hcp1
        have Hcl := Lib.hid hcl
        have Hcll := Lib.hid hcll
        have Hsub := Lib.hid hsub
        clear f1 f2 f3 hcell hcp hx hx2 htl hlen2 hn1 hn2 hn3 hcl hcll hsub hfz
        go_upto_region 5 with (fail)
        have Hw := Hcp1
        clear Hcp1
        revert Hw
        generalize v1.alloc (.cells #[.string t.name, .int .i64 t.delay, .int .i64 t.prio, .slice p1 n1 q1, .slice p2 n2 q2, .slice p3 n3 q3] 79) = W1
        intro Hw1
        rw [← htb]
        clear htb e0 e1 e2 e3 e4 e5
        go_cut [] from 21 to 28 (fun wc => ∃ (ua1 : Option Addr) (un1 uc1 : Nat), Cp w wc (.slice ap np cp) (.slice at_ m2 ct) bc (.slice a1 m1 k1) (.slice (some ⟨b, 0, none⟩) m2 k2) n.places (cl ++ (t, (.slice ua1 un1 uc1), (.slice p2 n2 q2), (.slice p3 n3 q3)) :: lt.drop (k + 1)) ((more ++ [boxRow tb 79 [.string t.name, .int .i64 t.delay, .int .i64 t.prio, .slice p1 n1 q1, .slice p2 n2 q2, .slice p3 n3 q3]]) ++ [arcRow (.slice ua1 un1 uc1) t.inn]))
        case first =>
          have hd := Hw1.out.go (Below.refl _ _).drew
          have hx3 : (cl ++ (t, (.slice p1 n1 q1), (.slice p2 n2 q2), (.slice p3 n3 q3)) :: lt.drop (k + 1))[k]? = some (t, (.slice p1 n1 q1), (.slice p2 n2 q2), (.slice p3 n3 q3)) := by rw [← Hcll.out]; simp
          have Hlen3 : Hid ((cl ++ (t, (.slice p1 n1 q1), (.slice p2 n2 q2), (.slice p3 n3 q3)) :: lt.drop (k + 1)).length = m2) := Lib.hid (by simp [Hcll.out]; have := Hll.out; omega)
          obtain ⟨_, g1, g2, _, _, _, _⟩ := hd.net
          obtain ⟨b', c', ev, hbw', _, hcell, hfz⟩ := hd.tr hx3
          have ebb : b' = b := by injection ev with ev; injection ev with ev; injection ev with ev; exact ev.symm
          subst ebb
          obtain ⟨tc, tlt⟩ := hd.boxAt (b := tb) (t := 79) (cs := [.string t.name, .int .i64 t.delay, .int .i64 t.prio, .slice p1 n1 q1, .slice p2 n2 q2, .slice p3 n3 q3]) (by simp)
          have g3 := tc 3 _ rfl
          have g4 := hcell 3 _ rfl
          have g5 := hfz (k * 6 + 3)
          have g1' : W1.cell? ⟨bc, 1, none⟩ = some (.slice (some ⟨b', 0, none⟩) m2 k2) := g1
          have g3' : W1.cell? ⟨tb, 3, none⟩ = some (.slice p1 n1 q1) := g3
          have Hclone := Lib.hid (Hc.out _ hd.below _ _ F1.out hl1 _ _ _ rfl)
          have Hd := Lib.hid hd
          have Hx3 := Lib.hid hx3
          clear hd hx3 hcell hfz tc ev
          go_region_law (first | (go_simp; go_at_call 83; refine Hclone.out.mono ?_; rintro e w5 ⟨ua, un, uc, rfl, ho, hb5⟩; have r1 := bcell g1 g2 hb5; have r3 := bcell g3 tlt hb5; have r4 := bcell g4 hbw' hb5; have r5 := bfroz g5 hbw' hb5; have r6 := Nat.lt_of_lt_of_le hbw' hb5.size; have Ho := Lib.hid ho; have Hb5 := Lib.hid hb5; clear ho hb5))
          all_goals
            go_wp2
            go_meet
            case rel =>
              have hp := Hd.out.put (x' := (t, (.slice ua un uc), (.slice p2 n2 q2), (.slice p3 n3 q3))) (j := 3) (b := b') (c := k2) (by rw [Hlen3.out]) Hx3.out Hb5.out Ho.out (by omega) rfl
              exact ⟨_, _, _, by rw [List.set_append_right _ _ (by rw [Hcll.out]; exact Nat.le_refl _), Hcll.out, Nat.sub_self, List.set_cons_zero] at hp; exact hp⟩
        case rest =>
          obtain ⟨ua1, un1, uc1, hcw⟩ := hcut
          rename World => W2
          have Hw2 := Lib.hid hcw
          clear hcw Hw1
          go_upto_region 6 with (fail)
          go_cut [] from 29 to 36 (fun wc => ∃ (ua2 : Option Addr) (un2 uc2 : Nat), Cp w wc (.slice ap np cp) (.slice at_ m2 ct) bc (.slice a1 m1 k1) (.slice (some ⟨b, 0, none⟩) m2 k2) n.places (cl ++ (t, (.slice ua1 un1 uc1), (.slice ua2 un2 uc2), (.slice p3 n3 q3)) :: lt.drop (k + 1)) (((more ++ [boxRow tb 79 [.string t.name, .int .i64 t.delay, .int .i64 t.prio, .slice p1 n1 q1, .slice p2 n2 q2, .slice p3 n3 q3]]) ++ [arcRow (.slice ua1 un1 uc1) t.inn]) ++ [arcRow (.slice ua2 un2 uc2) t.nt]))
          case first =>
            have hd := Hw2.out.go (Below.refl _ _).drew
            have hx3 : (cl ++ (t, (.slice ua1 un1 uc1), (.slice p2 n2 q2), (.slice p3 n3 q3)) :: lt.drop (k + 1))[k]? = some (t, (.slice ua1 un1 uc1), (.slice p2 n2 q2), (.slice p3 n3 q3)) := by rw [← Hcll.out]; simp
            have Hlen3 : Hid ((cl ++ (t, (.slice ua1 un1 uc1), (.slice p2 n2 q2), (.slice p3 n3 q3)) :: lt.drop (k + 1)).length = m2) := Lib.hid (by simp [Hcll.out]; have := Hll.out; omega)
            obtain ⟨_, g1, g2, _, _, _, _⟩ := hd.net
            obtain ⟨b', c', ev, hbw', _, hcell, hfz⟩ := hd.tr hx3
            have ebb : b' = b := by injection ev with ev; injection ev with ev; injection ev with ev; exact ev.symm
            subst ebb
            obtain ⟨tc, tlt⟩ := hd.boxAt (b := tb) (t := 79) (cs := [.string t.name, .int .i64 t.delay, .int .i64 t.prio, .slice p1 n1 q1, .slice p2 n2 q2, .slice p3 n3 q3]) (by simp)
            have g3 := tc 4 _ rfl
            have g4 := hcell 4 _ rfl
            have g5 := hfz (k * 6 + 4)
            have g1' : W2.cell? ⟨bc, 1, none⟩ = some (.slice (some ⟨b', 0, none⟩) m2 k2) := g1
            have g3' : W2.cell? ⟨tb, 4, none⟩ = some (.slice p2 n2 q2) := g3
            have Hclone := Lib.hid (Hc.out _ hd.below _ _ F2.out hl2 _ _ _ rfl)
            have Hd := Lib.hid hd
            have Hx3 := Lib.hid hx3
            clear hd hx3 hcell hfz tc ev
            go_region_law (first | (go_simp; go_at_call 83; refine Hclone.out.mono ?_; rintro e w5 ⟨ua, un, uc, rfl, ho, hb5⟩; have r1 := bcell g1 g2 hb5; have r3 := bcell g3 tlt hb5; have r4 := bcell g4 hbw' hb5; have r5 := bfroz g5 hbw' hb5; have r6 := Nat.lt_of_lt_of_le hbw' hb5.size; have Ho := Lib.hid ho; have Hb5 := Lib.hid hb5; clear ho hb5))
            all_goals
              go_wp2
              go_meet
              case rel =>
                have hp := Hd.out.put (x' := (t, (.slice ua1 un1 uc1), (.slice ua un uc), (.slice p3 n3 q3))) (j := 4) (b := b') (c := k2) (by rw [Hlen3.out]) Hx3.out Hb5.out Ho.out (by omega) rfl
                exact ⟨_, _, _, by rw [List.set_append_right _ _ (by rw [Hcll.out]; exact Nat.le_refl _), Hcll.out, Nat.sub_self, List.set_cons_zero] at hp; exact hp⟩
          case rest =>
            obtain ⟨ua2, un2, uc2, hcw⟩ := hcut
            rename World => W3
            have Hw3 := Lib.hid hcw
            clear hcw Hw2
            go_upto_region 7 with (fail)
            have hd := Hw3.out.go (Below.refl _ _).drew
            have hx3 : (cl ++ (t, (.slice ua1 un1 uc1), (.slice ua2 un2 uc2), (.slice p3 n3 q3)) :: lt.drop (k + 1))[k]? = some (t, (.slice ua1 un1 uc1), (.slice ua2 un2 uc2), (.slice p3 n3 q3)) := by rw [← Hcll.out]; simp
            have Hlen3 : Hid ((cl ++ (t, (.slice ua1 un1 uc1), (.slice ua2 un2 uc2), (.slice p3 n3 q3)) :: lt.drop (k + 1)).length = m2) := Lib.hid (by simp [Hcll.out]; have := Hll.out; omega)
            obtain ⟨_, g1, g2, _, _, _, _⟩ := hd.net
            obtain ⟨b', c', ev, hbw', _, hcell, hfz⟩ := hd.tr hx3
            have ebb : b' = b := by injection ev with ev; injection ev with ev; injection ev with ev; exact ev.symm
            subst ebb
            obtain ⟨tc, tlt⟩ := hd.boxAt (b := tb) (t := 79) (cs := [.string t.name, .int .i64 t.delay, .int .i64 t.prio, .slice p1 n1 q1, .slice p2 n2 q2, .slice p3 n3 q3]) (by simp)
            have g3 := tc 5 _ rfl
            have g4 := hcell 5 _ rfl
            have g5 := hfz (k * 6 + 5)
            have g1' : W3.cell? ⟨bc, 1, none⟩ = some (.slice (some ⟨b', 0, none⟩) m2 k2) := g1
            have g3' : W3.cell? ⟨tb, 5, none⟩ = some (.slice p3 n3 q3) := g3
            have Hclone := Lib.hid (Hc.out _ hd.below _ _ F3.out hl3 _ _ _ rfl)
            have Hd := Lib.hid hd
            have Hx3 := Lib.hid hx3
            clear hd hx3 hcell hfz tc ev
            go_region_law (first | (go_simp; go_at_call 83; refine Hclone.out.mono ?_; rintro e w5 ⟨ua, un, uc, rfl, ho, hb5⟩; have r1 := bcell g1 g2 hb5; have r3 := bcell g3 tlt hb5; have r4 := bcell g4 hbw' hb5; have r5 := bfroz g5 hbw' hb5; have r6 := Nat.lt_of_lt_of_le hbw' hb5.size; have Ho := Lib.hid ho; have Hb5 := Lib.hid hb5; clear ho hb5))
            all_goals
              have hp := Hd.out.put (x' := (t, (.slice ua1 un1 uc1), (.slice ua2 un2 uc2), (.slice ua un uc))) (j := 5) (b := b') (c := k2) (by rw [Hlen3.out]) Hx3.out Hb5.out Ho.out (by omega) rfl
              rw [List.set_append_right _ _ (by rw [Hcll.out]; exact Nat.le_refl _), Hcll.out, Nat.sub_self, List.set_cons_zero] at hp
              have Hp := Lib.hid hp
              clear hp r1 r3 r4 r5 r6 g1 g1' g2 g3 g3' g4 g5
              go_wp2
              go_roundw
              case rel =>
                refine ⟨k + 1, by omega, by go_num, cl ++ [(t, (.slice ua1 un1 uc1), (.slice ua2 un2 uc2), (.slice ua un uc))], _, by rw [List.append_assoc]; exact Hp.out, ?_, ?_⟩
                · rw [List.map_append, Hcl.out, take_at Hx.out, List.map_append]; rfl
                · have := Hsub.out.append (List.sublist_cons_self (boxRow tb 79 [.string t.name, .int .i64 t.delay, .int .i64 t.prio, .slice p1 n1 q1, .slice p2 n2 q2, .slice p3 n3 q3]) [arcRow (.slice ua1 un1 uc1) t.inn, arcRow (.slice ua2 un2 uc2) t.nt, arcRow (.slice ua un uc) t.out])
                  simpa [arcRows] using this
              case measure => simp [intOf]; omega
      · have hge : ¬ (k : Int) < (m2 : Int) := by omega
        have ek : lt.drop k = [] := List.drop_eq_nil_of_le (by rw [Hll.out]; omega)
        have et : lt.take k = lt := List.take_of_length_le (by rw [Hll.out]; omega)
        rw [ek, List.append_nil] at hcp
        rw [et, Hl.out] at hcl
        obtain ⟨c0, c1, clt, d0, d1, df, dlt⟩ := hcp.net
        have df0 := df 0
        have df1 := df 1
        have hfin := hcp.finish hsub
        have rc0 := hfin.2.2.1
        have rc1 := hfin.2.2.2
        have Hfin := Lib.hid hfin
        have Hcl := Lib.hid hcl
        clear hcp hcl hsub hfin df ek et
        go_wp2
        exact bodyPost_ret (v := .agg #[.slice a1 m1 k1, .slice a2 m2 k2]) (by simp [results, Try.results58, go_sem, rc0, rc1]) rfl ⟨_, _, rfl, ⟨cl, Hcl.out, Hfin.out.1⟩, Hfin.out.2.1⟩
end Go.Proofs.Ytpbbdnicafifpaa
