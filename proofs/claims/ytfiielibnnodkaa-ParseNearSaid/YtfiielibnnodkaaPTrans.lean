/-
  The parser's transitions.
  Conditions: none beyond each theorem's own.
-/
import Derived.Test.YtfiielibnnodkaaPPlace
namespace Go.Proofs.Ytfiielibnnodkaa
open Go.RowKit
set_option linter.unusedVariables false

section
variable {w0 w w' : World} {R M T : Nat} {vm vp vt v1 v2 v3 : Value} {ts : List Tok} {ps : List Pl} {l : List (Tr × Value × Value × Value)} {more : List Row} {nm : ByteArray} {d p : Int} {l1 l2 l3 : List (Int × Int)} {ns : List (List UInt8)}

theorem St.tr (h : St w0 w R vm vp vt ts ps l more) : OwnT w0.heap.size w vt l := by
  obtain ⟨vk, h1, h3, h4⟩ := h
  exact h3.own (trRow vt l) (by simp [netRows])
theorem St.addNil (h : St w0 w R vm vp vt ts ps l more) : St w0 w R vm vp vt ts ps l (more ++ [arcRow (.slice none 0 0) []]) := by
  obtain ⟨vk, h1, h3, h4⟩ := h
  have h5 := h3.add (Below.refl _ _) (r := arcRow (.slice none 0 0) []) (ownNil _ _ _ _) (fun k e => by cases e)
  exact ⟨vk, h1, by simpa using h5, h4⟩

/-- a transition put at the end, and stored into the reader -/
theorem St.pushT {w2 : World} {u : Value} (h : St w0 w R vm vp vt ts ps l (more ++ trOnly T (trCells nm d p v1 v2 v3) (arcRow v1 l1) (arcRow v2 l2) (arcRow v3 l3))) (h2 : OwnT w0.heap.size w2 u (l ++ [(⟨nm, d, p, l1, l2, l3⟩, v1, v2, v3)])) (hk : Kept (fun k => vt.ownBlock = some k) w w2) (hv : u.ownBlock = vt.ownBlock ∨ u.ownBlock = some (w.heap.size + 1)) :
    St w0 (w2.setCell ⟨R, 3, none⟩ u) R vm vp u ts ps (l ++ [(⟨nm, d, p, l1, l2, l3⟩, v1, v2, v3)]) more ∧ w2.cell? ⟨R, 3, none⟩ = some vt ∧ w2.frozen? ⟨R, 3, none⟩ = false ∧ R < w2.heap.size := by
  have ht := h.tr
  obtain ⟨vk, h1, h3, h4⟩ := h
  have a1 : AllOwn w0.heap.size w2 ([boxRow R 77 [vk, vm, vp, vt], plRow vp ps] ++ trRow u (l ++ [(⟨nm, d, p, l1, l2, l3⟩, v1, v2, v3)]) :: (l.flatMap arcRows ++ (more ++ trOnly T (trCells nm d p v1 v2 v3) (arcRow v1 l1) (arcRow v2 l2) (arcRow v3 l3)))) :=
    AllOwn.swap (pre := [boxRow R 77 [vk, vm, vp, vt], plRow vp ps]) (r := trRow vt l) (post := l.flatMap arcRows ++ (more ++ trOnly T (trCells nm d p v1 v2 v3) (arcRow v1 l1) (arcRow v2 l2) (arcRow v3 l3))) h3 hk h2 (by
      rcases hv with e | e
      · exact .inl e
      · exact .inr ⟨_, e, by omega⟩)
  have a2 := AllOwn.store (pre := []) (b := R) (t := 77) (cs := [vk, vm, vp, vt]) (post := plRow vp ps :: trRow u (l ++ [(⟨nm, d, p, l1, l2, l3⟩, v1, v2, v3)]) :: (l.flatMap arcRows ++ (more ++ trOnly T (trCells nm d p v1 v2 v3) (arcRow v1 l1) (arcRow v2 l2) (arcRow v3 l3)))) a1 3 u
  have hb2 := a1.own (boxRow R 77 [vk, vm, vp, vt]) (by simp)
  have hR := (boxRow.lt hb2).1
  have hk2 : Kept (fun k => w0.heap.size ≤ k) w (w2.setCell ⟨R, 3, none⟩ u) := (hk.mono (fun k _ e => (Row.lt (r := trRow vt l) ht e).1)).trans (a2.2.mono (fun k _ e => by omega))
  refine ⟨⟨vk, h1, ?_, h4.trans (hk2.below (fun k hk => hk) h4.size)⟩, boxRow.cell hb2 rfl, boxRow.froz hb2 3, (boxRow.lt hb2).2⟩
  have e : boxRow R 77 [vk, vm, vp, u] :: (netRows vp u ps (l ++ [(⟨nm, d, p, l1, l2, l3⟩, v1, v2, v3)]) ++ more) = boxRow R 77 [vk, vm, vp, u] :: plRow vp ps :: trRow u (l ++ [(⟨nm, d, p, l1, l2, l3⟩, v1, v2, v3)]) :: (l.flatMap arcRows ++ ([arcRow v1 l1, arcRow v2 l2, arcRow v3 l3] ++ more)) := by simp [netRows, arcRows]
  rw [e]
  have hs : (more ++ [arcRow v1 l1, arcRow v2 l2, arcRow v3 l3]).Sublist (more ++ trOnly T (trCells nm d p v1 v2 v3) (arcRow v1 l1) (arcRow v2 l2) (arcRow v3 l3)) := (List.sublist_cons_self _ _).append_left more
  have a3 := a2.1.sub ((((hs.append_left (l.flatMap arcRows)).cons_cons (trRow u (l ++ [(⟨nm, d, p, l1, l2, l3⟩, v1, v2, v3)]))).cons_cons (plRow vp ps)).cons_cons (boxRow R 77 [vk, vm, vp, u]))
  exact a3.perm (((List.perm_append_comm.append_left _).cons _).cons _ |>.cons _)

def swapHead (A : Nt × Int × List Tok) (n : Nt) (ns : List (List UInt8)) (B : (List UInt8 × Int × Int) × Int × List Tok) : Prop :=
  A = if B.2.1 ≠ 0 then (n, B.2.1, B.2.2)
    else if (arcsG ns ⟨B.2.2, [], [], []⟩).2 ≠ 0 then (n, (arcsG ns ⟨B.2.2, [], [], []⟩).2, (arcsG ns ⟨B.2.2, [], [], []⟩).1.ts)
    else (⟨n.places, n.trans ++ [⟨bs B.1.1, B.1.2.1, B.1.2.2, (arcsG ns ⟨B.2.2, [], [], []⟩).1.inn, (arcsG ns ⟨B.2.2, [], [], []⟩).1.nt, (arcsG ns ⟨B.2.2, [], [], []⟩).1.out⟩]⟩, 0, (arcsG ns ⟨B.2.2, [], [], []⟩).1.ts)

/-- what trans leaves -/
def TransOut (w0 w' : World) (R M : Nat) (vp : Value) (A : Nt × Int × List Tok) (more : List Row) : Prop :=
  ∃ vt' l', l'.map (·.1) = A.1.trans ∧ St w0 w' R (.map (some M)) vp vt' A.2.2 A.1.places l' more

set_option maxRecDepth 100000 in
set_option maxHeartbeats 4000000 in
theorem trans_reader (hM : SMap w0 M ns) (h : St w0 w R (.map (some M)) vp vt ts ps l more) (hg : Good ts) (hps : l.length ≤ 32) :
    Calls Try.prog 76 #[.pointer (some ⟨R, 0, none⟩)] w fun e w' => e = .returned (.int .i64 (transG ns (ntOf' ps l) ts).2.1) ∧ TransOut w0 w' R M vp (transG ns (ntOf' ps l) ts) more := by
  obtain ⟨⟨ap, cp, e1⟩, at_, ct, e2⟩ := h.forms
  obtain ⟨a, n, c, hC, -⟩ := h.cells hg
  obtain ⟨c0, c1, c2, c3, fz, lt⟩ := hC
  obtain ⟨np, hnp⟩ : ∃ n, n = l.length := ⟨_, rfl⟩
  replace e2 : vt = .slice at_ np ct := by rw [e2, hnp]
  subst e2
  have Hnp := Lib.hid hnp
  clear e1 hnp c0 c1 c2 fz
  obtain ⟨A, hA⟩ : ∃ A, A = transG ns (ntOf' ps l) ts := ⟨_, rfl⟩
  rw [← hA]
  have hpl : (ntOf' ps l).trans.length = l.length := by simp [ntOf']
  have HM := Lib.hid hM
  clear hM
  by_cases h32 : np = 32
  · have hb : ((np : Int) == 32) = true := by rw [h32]; rfl
    have HA : Hid (A = (ntOf' ps l, 5, ts)) := Lib.hid (by rw [hA]; unfold transG; rw [hpl, if_pos (by rw [← Hnp.out]; exact h32)])
    have H := Lib.hid h
    clear h32 hA h hpl hps
    go_enter Try.func76, Try.ntmps76
    go_wp2
    go_ret
    rw [HA.out]
    exact ⟨rfl, _, l, rfl, H.out⟩
  have hb : ((np : Int) == 32) = false := by simp; omega
  have HA : Hid (swapHead A (ntOf' ps l) ns (headG (ntOf' ps l) ts)) := Lib.hid (by rw [hA]; unfold transG swapHead; rw [hpl, if_neg (by rw [← Hnp.out]; exact h32)]; rfl)
  have Hg0 := Lib.hid (headG_rest (n := ntOf' ps l) hg).1
  unfold headG at HA Hg0
  have Hg1 := Lib.hid (nameG_rest (n := ntOf' ps l) hg).1
  have hS1 := h.box #[.string { data := #[] }, .int .i64 0, .int .i64 0, .slice none 0 0, .slice none 0 0, .slice none 0 0] 40
  have hnm := name_reader hS1 hg
  have H := Lib.hid h
  have Hps := Lib.hid hps
  clear hpl h32 hA h hg hS1 hps
  generalize nameG (ntOf' ps l) ts = B at hnm HA Hg1 Hg0
  obtain ⟨s, e1, t1⟩ := B
  simp only at hnm HA Hg1 Hg0
  by_cases he1 : e1 = 0
  · subst he1
    rw [if_neg (by simp)] at HA Hg0
    go_enter Try.func76, Try.ntmps76
    go_wp2_with fail
    refine hnm.mono ?_
    rintro e w1 ⟨rfl, hS1⟩
    have hB := hS1.mem (r := boxRow w.heap.size 40 [.string { data := #[] }, .int .i64 0, .int .i64 0, .slice none 0 0, .slice none 0 0, .slice none 0 0]) (by simp)
    have b0 := boxRow.cell hB (j := 0) rfl
    have bl := (boxRow.lt hB).2
    have bf := boxRow.froz hB 0
    have hS2 := hS1.setBox (post := []) 0 (.string (bs s))
    have hnum := number_reader hS2 Hg1.out [64] (by simp) 0
    have Hg2 := Lib.hid (numG_rest (s := [64]) (by simp) (least := 0) Hg1.out).1
    clear hS1 hB hS2 hnm c3 lt
    generalize numG [64] 0 t1 = C at hnum HA Hg2 Hg0
    obtain ⟨k1, e2, t2⟩ := C
    simp only at hnum HA Hg2 Hg0
    by_cases he2 : e2 = 0
    · subst he2
      rw [if_neg (by simp)] at HA Hg0
      go_wp2_with fail
      refine hnum.mono ?_
      rintro e w2 ⟨rfl, hS3⟩
      clear b0 bl bf
      have hB := hS3.mem (r := boxRow w.heap.size 40 [.string (bs s), .int .i64 0, .int .i64 0, .slice none 0 0, .slice none 0 0, .slice none 0 0]) (by simp)
      have b1 := boxRow.cell hB (j := 1) rfl
      have bl := (boxRow.lt hB).2
      have bf := boxRow.froz hB 1
      have hS4 := hS3.setBox (post := []) 1 (.int .i64 k1)
      have hnum2 := number_reader hS4 Hg2.out [33] (by simp) 0
      have Hg3 := Lib.hid (numG_rest (s := [33]) (by simp) (least := 0) Hg2.out).1
      clear hS3 hB hS4 hnum
      generalize numG [33] 0 t2 = D at hnum2 HA Hg3 Hg0
      obtain ⟨k2, e3, t3⟩ := D
      simp only at hnum2 HA Hg3 Hg0
      by_cases he3 : e3 = 0
      · subst he3
        rw [if_neg (by simp)] at HA
        unfold swapHead at HA
        simp only at HA
        rw [if_neg (by simp)] at HA
        go_wp2_with fail
        refine hnum2.mono ?_
        rintro e w3 ⟨rfl, hS5⟩
        clear b1 bl bf
        have hB := hS5.mem (r := boxRow w.heap.size 40 [.string (bs s), .int .i64 k1, .int .i64 0, .slice none 0 0, .slice none 0 0, .slice none 0 0]) (by simp)
        have b2 := boxRow.cell hB (j := 2) rfl
        have bl := (boxRow.lt hB).2
        have bf := boxRow.froz hB 2
        have hS6 := ((hS5.setBox (post := []) 2 (.int .i64 k2)).addNil.addNil).addNil
        have hT : TSt w0 R M vp (.slice at_ np ct) ps l more w.heap.size (bs s) k1 k2 ⟨t3, [], [], []⟩ (w3.setCell ⟨w.heap.size, 2, none⟩ (.int .i64 k2)) := ⟨⟨by simp, by simp, by simp⟩, Hg3.out, .slice none 0 0, .slice none 0 0, .slice none 0 0, by simpa [trOnly, trCells] using hS6⟩
        have har := arcs_reader HM.out hT
        clear hS5 hB hS6 hT hnum2
        generalize arcsG ns ⟨t3, [], [], []⟩ = E at har HA
        obtain ⟨x, e4⟩ := E
        simp only at har HA
        by_cases he4 : e4 = 0
        · subst he4
          rw [if_neg (by simp)] at HA
          go_wp2_with fail
          refine har.mono ?_
          rintro e W ⟨rfl, hT⟩
          clear b2 bl bf har
          obtain ⟨hok, hgx, v1, v2, v3, hS4⟩ := hT
          obtain ⟨a1, m1, z1, q1⟩ := own_form3 (hS4.mem (r := arcRow v1 x.inn) (by simp [trOnly]))
          obtain ⟨a2, m2, z2, q2⟩ := own_form3 (hS4.mem (r := arcRow v2 x.nt) (by simp [trOnly]))
          obtain ⟨a3, m3, z3, q3⟩ := own_form3 (hS4.mem (r := arcRow v3 x.out) (by simp [trOnly]))
          replace q1 : v1 = .slice a1 m1 z1 := q1
          replace q2 : v2 = .slice a2 m2 z2 := q2
          replace q3 : v3 = .slice a3 m3 z3 := q3
          subst q1 q2 q3
          have hB := hS4.mem (r := boxRow w.heap.size 40 [.string (bs s), .int .i64 k1, .int .i64 k2, .slice a1 m1 z1, .slice a2 m2 z2, .slice a3 m3 z3]) (by simp [trOnly, trCells])
          have b0 := boxRow.cell hB (j := 0) rfl
          have b1 := boxRow.cell hB (j := 1) rfl
          have b2 := boxRow.cell hB (j := 2) rfl
          have b3 := boxRow.cell hB (j := 3) rfl
          have b4 := boxRow.cell hB (j := 4) rfl
          have b5 := boxRow.cell hB (j := 5) rfl
          have bl := (boxRow.lt hB).2
          have hlt := hS4.lt.2
          have c3 : W.cell? ⟨R, 3, none⟩ = some (.slice at_ np ct) := by
            obtain ⟨vk, _, h2, _⟩ := hS4
            exact boxRow.cell (h2.own (boxRow R 77 [vk, .map (some M), vp, .slice at_ np ct]) (by simp)) rfl
          have hS5 := hS4.go (Below.refl _ _).drew
          obtain ⟨v', w6, hr, ho, hkk, hf⟩ := run_push_tr 28 ((⟨bs s, k1, k2, x.inn, x.nt, x.out⟩ : Tr), (Value.slice a1 m1 z1), (Value.slice a2 m2 z2), (Value.slice a3 m3 z3)) hS5.tr rfl rfl rfl (by have := Hps.out; omega) hS5.below.size
          obtain ⟨a9, m9, c9, rfl⟩ := own_form3 ho
          obtain ⟨hS6, q1, q2, q3⟩ := hS5.pushT ho hkk hf
          have HS6 := Lib.hid hS6
          clear hS4 hB hS5 hS6 ho hkk hf hok hgx
          go_wp2
          go_region_law (first | (refine step_append_eq (by rfl) (.tmp 49) (.tmp 51) 28 (by rfl) (by rfl) (by rfl) hr ?_))
          all_goals
            clear b0 b1 b2 b3 b4 b5 c3 hr q1 q2
            go_wp2
            go_ret
            rw [HA.out]
            exact ⟨rfl, _, _, by simp [ntOf'], HS6.out⟩
        · have hne : (e4 == 0) = false := by simpa using he4
          rw [if_pos he4] at HA
          clear he4
          go_wp2_with fail
          refine har.mono ?_
          rintro e W ⟨rfl, hT⟩
          obtain ⟨hok, hgx, v1, v2, v3, hS4⟩ := hT
          have HS4 := Lib.hid hS4
          clear b2 bl bf har hS4 hok hgx
          go_wp2
          go_ret
          rw [HA.out]
          exact ⟨rfl, _, l, rfl, HS4.out.drop⟩
      · have hne : (e3 == 0) = false := by simpa using he3
        rw [if_pos he3] at HA
        unfold swapHead at HA
        simp only at HA
        rw [if_pos he3] at HA
        clear he3
        go_wp2_with fail
        refine hnum2.mono ?_
        rintro e w3 ⟨rfl, hS5⟩
        clear b1 bl bf
        have hB := hS5.mem (r := boxRow w.heap.size 40 [.string (bs s), .int .i64 k1, .int .i64 0, .slice none 0 0, .slice none 0 0, .slice none 0 0]) (by simp)
        have b2 := boxRow.cell hB (j := 2) rfl
        have bl := (boxRow.lt hB).2
        have bf := boxRow.froz hB 2
        have HS6 := Lib.hid (hS5.setBox (post := []) 2 (.int .i64 k2))
        clear hS5 hB hnum2
        go_wp2
        go_ret
        rw [HA.out]
        exact ⟨rfl, _, l, rfl, HS6.out.drop⟩
    · have hne : (e2 == 0) = false := by simpa using he2
      rw [if_pos he2] at HA
      unfold swapHead at HA
      simp only at HA
      rw [if_pos he2] at HA
      clear he2
      go_wp2_with fail
      refine hnum.mono ?_
      rintro e w2 ⟨rfl, hS3⟩
      clear b0 bl bf
      have hB := hS3.mem (r := boxRow w.heap.size 40 [.string (bs s), .int .i64 0, .int .i64 0, .slice none 0 0, .slice none 0 0, .slice none 0 0]) (by simp)
      have b1 := boxRow.cell hB (j := 1) rfl
      have bl := (boxRow.lt hB).2
      have bf := boxRow.froz hB 1
      have HS4 := Lib.hid (hS3.setBox (post := []) 1 (.int .i64 k1))
      clear hS3 hB hnum
      go_wp2
      go_ret
      rw [HA.out]
      exact ⟨rfl, _, l, rfl, HS4.out.drop⟩
  · have hne : (e1 == 0) = false := by simpa using he1
    rw [if_pos he1] at HA
    unfold swapHead at HA
    simp only at HA
    rw [if_pos he1] at HA
    clear he1
    go_enter Try.func76, Try.ntmps76
    go_wp2_with fail
    refine hnm.mono ?_
    rintro e w1 ⟨rfl, hS1⟩
    have hB := hS1.mem (r := boxRow w.heap.size 40 [.string { data := #[] }, .int .i64 0, .int .i64 0, .slice none 0 0, .slice none 0 0, .slice none 0 0]) (by simp)
    have b0 := boxRow.cell hB (j := 0) rfl
    have bl := (boxRow.lt hB).2
    have bf := boxRow.froz hB 0
    have HS2 := Lib.hid (hS1.setBox (post := []) 0 (.string (bs s)))
    clear hS1 hB hnm c3 lt
    go_wp2
    go_ret
    rw [HA.out]
    exact ⟨rfl, _, l, rfl, HS2.out.drop⟩
end
end Go.Proofs.Ytfiielibnnodkaa
