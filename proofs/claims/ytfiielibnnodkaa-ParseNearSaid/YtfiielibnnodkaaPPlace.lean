/-
  The parser's places.
  Conditions: none beyond each theorem's own.
-/
import Derived.Test.YtfiielibnnodkaaPArcs
import Derived.Deep.RegionLaw
namespace Go.Proofs.Ytfiielibnnodkaa
open Go.RowKit
set_option linter.unusedVariables false

section
variable {w0 w w' : World} {R M : Nat} {vm vp vt : Value} {ts : List Tok} {ps : List Pl} {l : List (Tr × Value × Value × Value)} {more : List Row}

/-- a place put at the end, and stored into the reader -/
theorem St.pushP {w2 : World} {v2 : Value} {x : Pl} (h : St w0 w R vm vp vt ts ps l more) (h2 : OwnP w0.heap.size w2 v2 (ps ++ [x])) (hk : Kept (fun k => vp.ownBlock = some k) w w2) (hv : v2.ownBlock = vp.ownBlock ∨ v2.ownBlock = some (w.heap.size + 1)) :
    St w0 (w2.setCell ⟨R, 2, none⟩ v2) R vm v2 vt ts (ps ++ [x]) l more ∧ w2.cell? ⟨R, 2, none⟩ = some vp ∧ w2.frozen? ⟨R, 2, none⟩ = false ∧ R < w2.heap.size := by
  obtain ⟨vk, h1, h3, h4⟩ := h
  have hp := h3.own (plRow vp ps) (by simp [netRows])
  have a1 : AllOwn w0.heap.size w2 ([boxRow R 77 [vk, vm, vp, vt]] ++ plRow v2 (ps ++ [x]) :: (trRow vt l :: l.flatMap arcRows ++ more)) :=
    AllOwn.swap (pre := [boxRow R 77 [vk, vm, vp, vt]]) (r := plRow vp ps) (post := trRow vt l :: l.flatMap arcRows ++ more) h3 hk h2 (by
      rcases hv with e | e
      · exact .inl e
      · exact .inr ⟨_, e, by omega⟩)
  have a2 := AllOwn.store (pre := []) (b := R) (t := 77) (cs := [vk, vm, vp, vt]) (post := plRow v2 (ps ++ [x]) :: (trRow vt l :: l.flatMap arcRows ++ more)) a1 2 v2
  have hb2 := a1.own (boxRow R 77 [vk, vm, vp, vt]) (by simp)
  have hR := (boxRow.lt hb2).1
  refine ⟨⟨vk, h1, a2.1, ?_⟩, boxRow.cell hb2 rfl, boxRow.froz hb2 2, (boxRow.lt hb2).2⟩
  have hk2 : Kept (fun k => w0.heap.size ≤ k) w (w2.setCell ⟨R, 2, none⟩ v2) := (hk.mono (fun k _ e => (Row.lt (r := plRow vp ps) hp e).1)).trans (a2.2.mono (fun k _ e => by omega))
  exact h4.trans (hk2.below (fun k hk => hk) h4.size)

theorem St.pl (h : St w0 w R vm vp vt ts ps l more) : OwnP w0.heap.size w vp ps := by
  obtain ⟨vk, h1, h3, h4⟩ := h
  exact h3.own (plRow vp ps) (by simp [netRows])

set_option maxRecDepth 100000 in
set_option maxHeartbeats 2000000 in
theorem place_reader (h : St w0 w R vm vp vt ts ps l more) (hg : Good ts) (hps : ps.length ≤ 32) :
    Calls Try.prog 75 #[.pointer (some ⟨R, 0, none⟩)] w fun e w' => e = .returned (.int .i64 (placeG (ntOf' ps l) ts).2.1) ∧ ∃ vp', St w0 w' R vm vp' vt (placeG (ntOf' ps l) ts).2.2 (placeG (ntOf' ps l) ts).1.places l more := by
  obtain ⟨⟨ap, cp, e1⟩, at_, ct, e2⟩ := h.forms
  obtain ⟨a, n, c, hC, -⟩ := h.cells hg
  obtain ⟨c0, c1, c2, c3, fz, lt⟩ := hC
  obtain ⟨np, hnp⟩ : ∃ n, n = ps.length := ⟨_, rfl⟩
  replace e1 : vp = .slice ap np cp := by rw [e1, hnp]
  subst e1
  have Hnp := Lib.hid hnp
  clear e2 hnp
  obtain ⟨A, hA⟩ : ∃ A, A = placeG (ntOf' ps l) ts := ⟨_, rfl⟩
  rw [← hA]
  clear c0 c1 c3 fz
  have hpl : (ntOf' ps l).places = ps := rfl
  by_cases h32 : np = 32
  · have hb : ((np : Int) == 32) = true := by rw [h32]; rfl
    have HA : Hid (A = (ntOf' ps l, 5, ts)) := Lib.hid (by rw [hA]; unfold placeG; rw [hpl, if_pos (by rw [← Hnp.out]; exact h32)])
    have H := Lib.hid h
    clear h32 hA h hpl hps
    go_enter Try.func75, Try.ntmps75
    go_wp2
    go_ret
    rw [HA.out]
    exact ⟨rfl, _, H.out⟩
  have hb : ((np : Int) == 32) = false := by simp; omega
  have HA : Hid (A = if (nameG (ntOf' ps l) ts).2.1 ≠ 0 then (ntOf' ps l, (nameG (ntOf' ps l) ts).2.1, (nameG (ntOf' ps l) ts).2.2)
    else if (numG [61] 0 (nameG (ntOf' ps l) ts).2.2).2.1 ≠ 0 then (ntOf' ps l, (numG [61] 0 (nameG (ntOf' ps l) ts).2.2).2.1, (numG [61] 0 (nameG (ntOf' ps l) ts).2.2).2.2)
    else (⟨ps ++ [⟨bs (nameG (ntOf' ps l) ts).1, (numG [61] 0 (nameG (ntOf' ps l) ts).2.2).1⟩], (ntOf' ps l).trans⟩, 0, (numG [61] 0 (nameG (ntOf' ps l) ts).2.2).2.2)) := Lib.hid (by rw [hA]; unfold placeG; rw [hpl, if_neg (by rw [← Hnp.out]; exact h32)]; rfl)
  have Hg1 := Lib.hid (nameG_rest (n := ntOf' ps l) hg).1
  have hS1 := h.box #[.string { data := #[] }, .int .i64 0] 35
  have hnm := name_reader hS1 hg
  have H := Lib.hid h
  have Hps := Lib.hid hps
  clear hpl h32 hA h hg hS1 hps
  generalize nameG (ntOf' ps l) ts = B at hnm HA Hg1
  obtain ⟨s, e1, t1⟩ := B
  simp only at hnm HA Hg1
  by_cases he1 : e1 = 0
  · subst he1
    have HA2 : Hid (A = if (numG [61] 0 t1).2.1 ≠ 0 then (ntOf' ps l, (numG [61] 0 t1).2.1, (numG [61] 0 t1).2.2)
      else (⟨ps ++ [⟨bs s, (numG [61] 0 t1).1⟩], (ntOf' ps l).trans⟩, 0, (numG [61] 0 t1).2.2)) := Lib.hid (by rw [HA.out, if_neg (by simp)])
    go_enter Try.func75, Try.ntmps75
    go_wp2_with fail
    refine hnm.mono ?_
    rintro e w1 ⟨rfl, hS1⟩
    have hB := hS1.mem (r := boxRow w.heap.size 35 [.string { data := #[] }, .int .i64 0]) (by simp)
    have b0 := boxRow.cell hB (j := 0) rfl
    have bl := (boxRow.lt hB).2
    have bf := boxRow.froz hB 0
    have hS2 := hS1.setBox (post := []) 0 (.string (bs s))
    have hnum := number_reader hS2 Hg1.out [61] (by simp) 0
    clear hS1 hB hS2 hnm c2 lt
    generalize numG [61] 0 t1 = C at hnum HA2
    obtain ⟨k, e2, t2⟩ := C
    simp only at hnum HA2
    by_cases he2 : e2 = 0
    · subst he2
      go_wp2_with fail
      refine hnum.mono ?_
      rintro e w2 ⟨rfl, hS3⟩
      clear b0 bl bf
      have hB := hS3.mem (r := boxRow w.heap.size 35 [.string (bs s), .int .i64 0]) (by simp)
      have b1 := boxRow.cell hB (j := 1) rfl
      have bl := (boxRow.lt hB).2
      have bf := boxRow.froz hB 1
      have hS4 := hS3.setBox (post := []) 1 (.int .i64 k)
      clear hS3 hB hnum
      go_upto_region 11 with (fail)
      clear b1 bl bf
      revert hS4
      generalize w2.setCell ⟨w.heap.size, 1, none⟩ (.int .i64 k) = W
      intro hS4
      have hB := hS4.mem (r := boxRow w.heap.size 35 [.string (bs s), .int .i64 k]) (by simp)
      have b0 := boxRow.cell hB (j := 0) rfl
      have b1 := boxRow.cell hB (j := 1) rfl
      have bl := (boxRow.lt hB).2
      have hlt := hS4.lt.2
      have hS5 := hS4.go (Below.refl _ _).drew
      have c2 : W.cell? ⟨R, 2, none⟩ = some (.slice ap np cp) := by
        obtain ⟨vk, _, h2, _⟩ := hS4
        exact boxRow.cell (h2.own (boxRow R 77 [vk, vm, .slice ap np cp, vt]) (by simp)) rfl
      obtain ⟨v', w6, hr, ho, hkk, hf⟩ := run_push_pl 27 ⟨bs s, k⟩ hS5.pl (by have := Hps.out; omega) hS5.below.size
      obtain ⟨a9, m9, c9, rfl⟩ := own_form3 ho
      obtain ⟨hS6, q1, q2, q3⟩ := hS5.pushP ho hkk hf
      have HS6 := Lib.hid hS6.drop
      clear hS4 hB hS5 hS6 ho hkk hf
      go_region_law (first | (refine step_append_eq (by rfl) (.tmp 35) (.tmp 37) 27 (by rfl) (by rfl) (by rfl) hr ?_))
      all_goals
        clear b0 b1 c2 hr q1 q2
        go_wp2
        go_ret
        rw [show A = (⟨ps ++ [⟨bs s, k⟩], (ntOf' ps l).trans⟩, 0, t2) by rw [HA2.out, if_neg (by simp)]]
        exact ⟨rfl, _, HS6.out⟩
    · have hne : (e2 == 0) = false := by simpa using he2
      have He2 := Lib.hid he2
      clear he2
      go_wp2_with fail
      refine hnum.mono ?_
      rintro e w2 ⟨rfl, hS3⟩
      clear b0 bl bf
      have hB := hS3.mem (r := boxRow w.heap.size 35 [.string (bs s), .int .i64 0]) (by simp)
      have b1 := boxRow.cell hB (j := 1) rfl
      have bl := (boxRow.lt hB).2
      have bf := boxRow.froz hB 1
      have HS4 := Lib.hid (hS3.setBox (post := []) 1 (.int .i64 k))
      clear hS3 hB hnum
      go_wp2
      go_ret
      rw [show A = (ntOf' ps l, e2, t2) by rw [HA2.out, if_pos He2.out]]
      exact ⟨rfl, _, HS4.out.drop⟩
  · have hne : (e1 == 0) = false := by simpa using he1
    have He1 := Lib.hid he1
    clear he1
    go_enter Try.func75, Try.ntmps75
    go_wp2_with fail
    refine hnm.mono ?_
    rintro e w1 ⟨rfl, hS1⟩
    have hB := hS1.mem (r := boxRow w.heap.size 35 [.string { data := #[] }, .int .i64 0]) (by simp)
    have b0 := boxRow.cell hB (j := 0) rfl
    have bl := (boxRow.lt hB).2
    have bf := boxRow.froz hB 0
    have HS2 := Lib.hid (hS1.setBox (post := []) 0 (.string (bs s)))
    clear hS1 hB hnm c2 lt
    go_wp2
    go_ret
    rw [show A = (ntOf' ps l, e1, t1) by rw [HA.out, if_pos He1.out]]
    exact ⟨rfl, _, HS2.out.drop⟩
end
end Go.Proofs.Ytfiielibnnodkaa
