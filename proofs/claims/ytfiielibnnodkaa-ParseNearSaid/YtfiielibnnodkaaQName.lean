/-
  The document's own parser: names.
  Conditions: none beyond each theorem's own.
-/
import Derived.Test.YtfiielibnnodkaaQSteps
import Derived.Test.YtfiielibnnodkaaQPlace
namespace Go.Proofs.Ytfiielibnnodkaa
open Go.RowKit
set_option linter.unusedVariables false

def hasSB (l : List ByteArray) (s : ByteArray) : Bool := l.any fun x => sEq x s
def nameD1 (T : List Tok) (D : QD) : QD :=
  if seesD T 1 [] D = true then (if 12 < (D.hd T).text.length ∨ hasSB D.told (bs (D.hd T).text) = true then failD T 7 D else D) else failD T 6 D
def nameD (T : List Tok) (D : QD) : QD := stepD T { nameD1 T D with told := (nameD1 T D).told ++ [bs (D.hd T).text] }

theorem failD_told (T : List Tok) (er : Int) (D : QD) : (failD T er D).told = D.told ∧ (failD T er D).n = D.n ∧ (failD T er D).i = D.i := by
  unfold failD; split <;> exact ⟨rfl, rfl, rfl⟩
theorem nameD1_told (T : List Tok) (D : QD) : (nameD1 T D).told = D.told := by
  unfold nameD1
  split
  · split
    · exact (failD_told T 7 D).1
    · rfl
  · exact (failD_told T 6 D).1

section
variable {w0 w w' : World} {R : Nat} {T : List Tok} {ns : List ByteArray} {more : List Row} {D : QD}

/-- a name more -/
theorem Q.tell (h : Q w0 w R T ns more D) (x : ByteArray) (hl : D.told.length ≤ 1000000) :
    ∃ vo a n c w2, w.cell? ⟨R, 7, none⟩ = some vo ∧ (∃ a n c, vo = .slice a n c) ∧ (Builtin.append_ #[43, 43] 43 #[vo, .slice (some ⟨w.heap.size, 0, none⟩) 1 1]).run Try.prog (w.alloc (.cells #[.string x] 9)) = .ok (.slice a n c) w2 ∧
      w2.cell? ⟨R, 7, none⟩ = some vo ∧ w2.frozen? ⟨R, 7, none⟩ = false ∧ R < w2.heap.size ∧ Q w0 (w2.setCell ⟨R, 7, none⟩ (.slice a n c)) R T ns more { D with told := D.told ++ [x] } := by
  obtain ⟨h1, h2, vk, vp, vt, vn, vo, l, h3, h4, h5, h6⟩ := h
  have hO : OwnS w0.heap.size w vo D.told := h5.own (strRow vo D.told) (by simp)
  have hB := h5.own (boxRow R 93 (qCells vk D vp vt vn vo)) (by simp)
  obtain ⟨v', w2, hr, ho, hk, hf⟩ := run_push_str 43 x hO (by omega) h6.size
  obtain ⟨a, n, c, rfl⟩ := own_form3 ho
  have e : ∀ vo t, boxRow R 93 (qCells vk D vp vt vn vo) :: (netRows vp vt D.n.places l ++ (strRow vn ns :: strRow vo t :: more)) = (boxRow R 93 (qCells vk D vp vt vn vo) :: (netRows vp vt D.n.places l ++ [strRow vn ns])) ++ strRow vo t :: more := fun _ _ => by simp
  rw [e] at h5
  have a1 := h5.swap hk (r' := strRow (.slice a n c) (D.told ++ [x])) ho (by
    rcases hf with e | e
    · exact .inl e
    · exact .inr ⟨_, e, by omega⟩)
  have hB2 := a1.own (boxRow R 93 (qCells vk D vp vt vn vo)) (by simp)
  have a1' : AllOwn w0.heap.size w2 (([] : List Row) ++ boxRow R 93 (qCells vk D vp vt vn vo) :: ((netRows vp vt D.n.places l ++ [strRow vn ns]) ++ strRow (.slice a n c) (D.told ++ [x]) :: more)) := a1
  obtain ⟨k1, k2⟩ := AllOwn.store a1' 7 (.slice a n c)
  have hR := (boxRow.lt hB2).1
  refine ⟨vo, a, n, c, w2, boxRow.cell hB rfl, own_form3 hO, hr, boxRow.cell hB2 rfl, boxRow.froz hB2 7, (boxRow.lt hB2).2, h1, h2, vk, vp, vt, vn, .slice a n c, l, h3, h4, ?_, ?_⟩
  · have : boxRow R 93 (qCells vk { D with told := D.told ++ [x] } vp vt vn (.slice a n c)) :: (netRows vp vt D.n.places l ++ (strRow vn ns :: strRow (.slice a n c) (D.told ++ [x]) :: more)) = ([] : List Row) ++ boxRow R 93 ((qCells vk D vp vt vn vo).set 7 (.slice a n c)) :: ((netRows vp vt D.n.places l ++ [strRow vn ns]) ++ strRow (.slice a n c) (D.told ++ [x]) :: more) := by simp [qCells]
    simp only
    rw [this]
    exact k1
  · have hk2 : Kept (fun k => w0.heap.size ≤ k) w (w2.setCell ⟨R, 7, none⟩ (.slice a n c)) := (hk.mono (fun k _ e => (Row.lt (r := strRow vo D.told) hO e).1)).trans (k2.mono (fun k _ e => by omega))
    exact h6.trans (hk2.below (fun k hk => hk) h6.size)

theorem Q.told_at (h : Q w0 w R T ns more D) : ∃ a c, w.cell? ⟨R, 7, none⟩ = some (.slice a D.told.length c) ∧ StrsAt w (.slice a D.told.length c) D.told := by
  obtain ⟨h1, h2, vk, vp, vt, vn, vo, l, h3, h4, h5, h6⟩ := h
  have hO : OwnS w0.heap.size w vo D.told := h5.own (strRow vo D.told) (by simp)
  have hB := h5.own (boxRow R 93 (qCells vk D vp vt vn vo)) (by simp)
  obtain ⟨a, c, rfl⟩ := own_form hO
  exact ⟨a, c, boxRow.cell hB rfl, RowAt.of_own hO⟩

set_option maxRecDepth 100000 in
set_option maxHeartbeats 2000000 in
theorem pname_any (h : Q w0 w R T ns more D) (hl : D.told.length ≤ 1000000) :
    Calls Try.prog 47 #[.pointer (some ⟨R, 0, none⟩)] w fun e w' => e = .returned (.string (bs (D.hd T).text)) ∧ Q w0 w' R T ns more (nameD T D) := by
  obtain ⟨b, off, c, vp, vt, vn, vo, hC, hbw, hmax, e0, e1, e2, e3⟩ := h.cells
  obtain ⟨c0, c1, c2, c3, c4, c5, c6, c7, fz, lt⟩ := hC
  have hii : (D.i : Int) < (T.length : Int) := by have := h.1; omega
  have H := Lib.hid h
  have hsm := h.2.1.small
  obtain ⟨tx, htx⟩ : ∃ t, t = (D.hd T).text := ⟨_, rfl⟩
  replace hsm : tx.length ≤ 1000000 := by rw [htx]; exact hsm
  rw [← htx] at e1 ⊢
  have Htx := Lib.hid htx
  have htl : (nameD1 T D).told = D.told := nameD1_told T D
  obtain ⟨D1, hD1⟩ : ∃ D1, D1 = nameD1 T D := ⟨_, rfl⟩
  obtain ⟨D2, hD2⟩ : ∃ D2, D2 = nameD T D := ⟨_, rfl⟩
  have HD2 : Hid (D2 = stepD T { D1 with told := D1.told ++ [bs tx] }) := Lib.hid (by rw [hD2, hD1, htx]; rfl)
  rw [← hD2]
  have HD1 : Hid (D1 = if seesD T 1 [] D = true then (if 12 < tx.length ∨ hasSB D.told (bs tx) = true then failD T 7 D else D) else failD T 6 D) := Lib.hid (by rw [hD1, htx]; rfl)
  rw [← hD1] at htl
  have Htl := Lib.hid htl
  have Hl := Lib.hid hl
  clear h htx hD1 hD2 htl hl c2 c3 c4 c5 c6 c7 fz e0 e2 e3
  go_enter Try.func47, Try.ntmps47
  go_wp2
  go_quiet (fail)
  have hQ1 := H.out.go (below_drews (Below.refl _ w) nq)
  revert hQ1
  generalize w.drewN nq = W
  intro hQ1
  have hs := sees_any hQ1 1 []
  have HQ1 := Lib.hid hQ1
  clear hQ1 c0 c1 e1 hii hbw lt hmax
  cases hq : seesD T 1 [] D with
  | false =>
    rw [hq] at hs
    have hd1 : D1 = failD T 6 D := by rw [HD1.out, if_neg (by rw [hq]; simp)]
    clear hq
    go_wp2_with fail
    refine hs.mono ?_
    rintro e w1 ⟨rfl, hb⟩
    have hf := fail_any (HQ1.out.go hb) 6
    rw [← hd1] at hf
    clear hb hs hd1
    go_wp2_with fail
    refine hf.mono ?_
    rintro e w2 ⟨rfl, hQ⟩
    obtain ⟨vo, a, n, cc, w3, t0, ⟨a', n', c', rfl⟩, hr, t1, t2, t3, hQ3⟩ := hQ.tell (bs tx) (by rw [Htl.out]; exact Hl.out)
    obtain ⟨_, _, _, _, _, _, _, hC, -⟩ := hQ.cells
    have hRl := hC.lt
    have hst := step_any hQ3
    rw [← HD2.out] at hst
    clear hQ hf hQ3 hC
    go_wp2_with (at_builtin; refine wpList_append_eq rfl (.tmp 38) (.tmp 40) 43 rfl rfl rfl hr ?_)
    refine hst.mono ?_
    rintro e w4 ⟨rfl, hQ4⟩
    have HQ4 := Lib.hid hQ4
    clear hQ4 hst t0 t1 t2 hr
    go_wp2
    go_ret
    exact ⟨rfl, HQ4.out⟩
  | true =>
    rw [hq] at hs
    obtain ⟨ta, tc, t7, hta⟩ := HQ1.out.told_at
    obtain ⟨nt, hnt⟩ : ∃ n, n = D.told.length := ⟨_, rfl⟩
    rw [← hnt] at t7 hta
    have Hta := Lib.hid hta
    have Hnt := Lib.hid hnt
    have hd1 : D1 = if 12 < tx.length ∨ hasSB D.told (bs tx) = true then failD T 7 D else D := by rw [HD1.out, if_pos hq]
    clear hq hta hnt
    have hsz : ((bs tx).size : Int) = (tx.length : Int) := by rw [bs_size]
    go_wp2_with fail
    refine hs.mono ?_
    rintro e w1 ⟨rfl, hb⟩
    have t7' : w1.cell? ⟨R, 7, none⟩ = some (.slice ta nt tc) := by
      obtain ⟨_, _, _, _, _, _, _, hC, -⟩ := HQ1.out.cells
      exact (below_cells hb R 7 hC.lt).trans t7
    have hpl := plidx_any (s := bs tx) Hnt.out (Hta.out.below hb)
    have hRl : R < w1.heap.size := by
      obtain ⟨_, _, _, _, _, _, _, hC, -⟩ := (HQ1.out.go hb).cells
      exact hC.lt
    have HQ2 := Lib.hid (HQ1.out.go hb)
    clear hb hs t7
    by_cases h12 : 12 < tx.length
    · have h12i : (12 : Int) < ((bs tx).size : Int) := by rw [hsz]; omega
      rw [if_pos (.inl h12)] at hd1
      have hf := fail_any HQ2.out 7
      rw [← hd1] at hf
      clear hd1 h12 hpl
      go_wp2_with fail
      refine hf.mono ?_
      rintro e w2 ⟨rfl, hQ⟩
      obtain ⟨vo, a, n, cc, w3, t0, ⟨a', n', c', rfl⟩, hr, t1, t2, t3, hQ3⟩ := hQ.tell (bs tx) (by rw [Htl.out]; exact Hl.out)
      obtain ⟨_, _, _, _, _, _, _, hC, -⟩ := hQ.cells
      have hRl := hC.lt
      have hst := step_any hQ3
      rw [← HD2.out] at hst
      clear hQ hf t7' hQ3 hC
      go_wp2_with (at_builtin; refine wpList_append_eq rfl (.tmp 38) (.tmp 40) 43 rfl rfl rfl hr ?_)
      refine hst.mono ?_
      rintro e w4 ⟨rfl, hQ4⟩
      have HQ4 := Lib.hid hQ4
      clear hQ4 hst t0 t1 t2 hr
      go_wp2
      go_ret
      exact ⟨rfl, HQ4.out⟩
    · have h12i : ¬ (12 : Int) < ((bs tx).size : Int) := by rw [hsz]; omega
      have h12b : decide ((12 : Int) < ((bs tx).size : Int)) = false := decide_eq_false h12i
      have hge := idxOf_ge (fun x => sEq x (bs tx)) D.told
      generalize idxOf (fun x => sEq x (bs tx)) D.told = I at hpl hge
      cases hh : hasSB D.told (bs tx) with
      | true =>
        rw [show D.told.any (fun x => sEq x (bs tx)) = true from hh] at hge
        have hI : (0 : Int) ≤ I := of_decide_eq_true hge
        rw [hh, if_pos (.inr rfl)] at hd1
        clear hge hh h12
        go_wp2_with fail
        refine hpl.mono ?_
        rintro e w9 ⟨rfl, rfl⟩
        have hf := fail_any HQ2.out 7
        rw [← hd1] at hf
        clear hd1 hpl
        go_wp2_with fail
        refine hf.mono ?_
        rintro e w2 ⟨rfl, hQ⟩
        obtain ⟨vo, a, n, cc, w3, t0, ⟨a', n', c', rfl⟩, hr, t1, t2, t3, hQ3⟩ := hQ.tell (bs tx) (by rw [Htl.out]; exact Hl.out)
        obtain ⟨_, _, _, _, _, _, _, hC, -⟩ := hQ.cells
        have hRl := hC.lt
        have hst := step_any hQ3
        rw [← HD2.out] at hst
        clear hQ hf t7' hQ3 hC
        go_wp2_with (at_builtin; refine wpList_append_eq rfl (.tmp 38) (.tmp 40) 43 rfl rfl rfl hr ?_)
        refine hst.mono ?_
        rintro e w4 ⟨rfl, hQ4⟩
        have HQ4 := Lib.hid hQ4
        clear hQ4 hst t0 t1 t2 hr
        go_wp2
        go_ret
        exact ⟨rfl, HQ4.out⟩
      | false =>
        rw [show D.told.any (fun x => sEq x (bs tx)) = false from hh] at hge
        have hI : ¬ (0 : Int) ≤ I := of_decide_eq_false hge
        rw [hh, if_neg (by simp [h12])] at hd1
        clear hge hh h12
        have hQ := HQ2.out
        rw [← hd1] at hQ
        go_wp2_with fail
        refine hpl.mono ?_
        rintro e w9 ⟨rfl, rfl⟩
        clear hpl hd1
        obtain ⟨vo, a, n, cc, w3, t0, ⟨a', n', c', rfl⟩, hr, t1, t2, t3, hQ3⟩ := hQ.tell (bs tx) (by rw [Htl.out]; exact Hl.out)
        obtain ⟨_, _, _, _, _, _, _, hC, -⟩ := hQ.cells
        have hRl := hC.lt
        have hst := step_any hQ3
        rw [← HD2.out] at hst
        clear hQ t7' hQ3 hC
        go_wp2_with (at_builtin; refine wpList_append_eq rfl (.tmp 38) (.tmp 40) 43 rfl rfl rfl hr ?_)
        refine hst.mono ?_
        rintro e w4 ⟨rfl, hQ4⟩
        have HQ4 := Lib.hid hQ4
        clear hQ4 hst t0 t1 t2 hr
        go_wp2
        go_ret
        exact ⟨rfl, HQ4.out⟩
end
end Go.Proofs.Ytfiielibnnodkaa
