/-
  The document's own parser: arcs.
  Conditions: none beyond each theorem's own.
-/
import Derived.Test.YtfiielibnnodkaaQName
import Derived.Test.YtfiielibnnodkaaNew
namespace Go.Proofs.Ytfiielibnnodkaa
open Go.RowKit
set_option linter.unusedVariables false

/-- the place's number -/
def kD (T : List Tok) (ns : List ByteArray) (D : QD) : Int := idxOf (fun x => sEq x (bs (D.hd T).text)) ns
def arcD1 (T : List Tok) (ns : List ByteArray) (l : List (Int × Int)) (D : QD) : QD := if (decide (kD T ns D < 0) || hasP l (kD T ns D)) = true then failD T 7 D else D
def arcD2 (T : List Tok) (ns : List ByteArray) (l : List (Int × Int)) (D : QD) : QD := stepD T (if l.length = 8 then failD T 5 (arcD1 T ns l D) else arcD1 T ns l D)
def arcD (T : List Tok) (ns : List ByteArray) (l : List (Int × Int)) (D : QD) : List (Int × Int) × QD :=
  if seesD T 1 [] D = true then
    if seesD T 3 [42] (arcD2 T ns l D) = true then (l ++ [(kD T ns D, (numD T 1 (stepD T (arcD2 T ns l D))).1)], (numD T 1 (stepD T (arcD2 T ns l D))).2)
    else (l ++ [(kD T ns D, 1)], arcD2 T ns l D)
  else (l, failD T 6 D)

section
variable {w0 w w' : World} {R : Nat} {T : List Tok} {ns : List ByteArray} {more pre post : List Row} {D : QD} {v : Value} {la : List (Int × Int)}

theorem Q.mem {r : Row} (h : Q w0 w R T ns more D) (hr : r ∈ more) : r.own w0.heap.size w := by
  obtain ⟨h1, h2, vk, vp, vt, vn, vo, l, h3, h4, h5, h6⟩ := h
  exact h5.own r (by simp [hr])
theorem Q.below (h : Q w0 w R T ns more D) : Below w0.heap.size w0 w := by
  obtain ⟨h1, h2, vk, vp, vt, vn, vo, l, h3, h4, h5, h6⟩ := h
  exact h6
theorem Q.box (h : Q w0 w R T ns more D) (cs : Array Value) (t : TypeId) : Q w0 (w.alloc (.cells cs t)) R T ns (more ++ [boxRow w.heap.size t cs.toList]) D := by
  obtain ⟨h1, h2, vk, vp, vt, vn, vo, l, h3, h4, h5, h6⟩ := h
  have h7 := h5.add ((Below.refl _ w).alloc (Nat.le_refl _) _) (boxRow.new w0.heap.size w t cs h6.size) (fun k e => by injection e with e; subst e; exact Nat.le_refl _)
  exact ⟨h1, h2, vk, vp, vt, vn, vo, l, h3, h4, by simpa using h7, h6.alloc h6.size _⟩
theorem Q.drop {r : List Row} (h : Q w0 w R T ns (more ++ r) D) : Q w0 w R T ns more D := by
  obtain ⟨h1, h2, vk, vp, vt, vn, vo, l, h3, h4, h5, h6⟩ := h
  refine ⟨h1, h2, vk, vp, vt, vn, vo, l, h3, h4, h5.sub ?_, h6⟩
  exact (((List.sublist_append_left more r).cons_cons _).cons_cons _).append_left _ |>.cons_cons _
theorem Q.rows (R : Nat) (c : List Value) (N : List Row) (s1 s2 r : Row) : boxRow R 93 c :: (N ++ (s1 :: s2 :: (pre ++ r :: post))) = (boxRow R 93 c :: (N ++ (s1 :: s2 :: pre))) ++ r :: post := by simp
theorem Q.swapRow {r r' : Row} (h : Q w0 w R T ns (pre ++ r :: post) D) (hk : Kept (fun k => r.v.ownBlock = some k) w w') (hr : r'.own w0.heap.size w') (hf : r'.v.ownBlock = r.v.ownBlock ∨ ∃ k, r'.v.ownBlock = some k ∧ w.heap.size ≤ k) :
    Q w0 w' R T ns (pre ++ r' :: post) D := by
  have hr0 := h.mem (r := r) (by simp)
  obtain ⟨h1, h2, vk, vp, vt, vn, vo, l, h3, h4, h5, h6⟩ := h
  rw [Q.rows] at h5
  refine ⟨h1, h2, vk, vp, vt, vn, vo, l, h3, h4, ?_, h6.trans (hk.below (fun k hk => (Row.lt hr0 hk).1) h6.size)⟩
  rw [Q.rows]
  exact h5.swap hk hr hf
theorem Q.setRow {b : Nat} {t : TypeId} {cs : List Value} (h : Q w0 w R T ns (pre ++ boxRow b t cs :: post) D) (j : Nat) (u : Value) : Q w0 (w.setCell ⟨b, j, none⟩ u) R T ns (pre ++ boxRow b t (cs.set j u) :: post) D := by
  have hr0 := h.mem (r := boxRow b t cs) (by simp)
  obtain ⟨h1, h2, vk, vp, vt, vn, vo, l, h3, h4, h5, h6⟩ := h
  rw [Q.rows] at h5
  obtain ⟨k1, k2⟩ := AllOwn.store h5 j u
  refine ⟨h1, h2, vk, vp, vt, vn, vo, l, h3, h4, ?_, h6.trans (k2.below (fun k hk => by have := (boxRow.lt hr0).1; omega) h6.size)⟩
  rw [Q.rows]
  exact k1
theorem Q.ns_at (h : Q w0 w R T ns more D) : ∃ a c, w.cell? ⟨R, 6, none⟩ = some (.slice a ns.length c) ∧ StrsAt w (.slice a ns.length c) ns := by
  obtain ⟨h1, h2, vk, vp, vt, vn, vo, l, h3, h4, h5, h6⟩ := h
  have hO : OwnS w0.heap.size w vn ns := h5.own (strRow vn ns) (by simp)
  have hB := h5.own (boxRow R 93 (qCells vk D vp vt vn vo)) (by simp)
  obtain ⟨a, c, rfl⟩ := own_form hO
  exact ⟨a, c, boxRow.cell hB rfl, RowAt.of_own hO⟩

theorem hasP_take {l : List (Int × Int)} {k : Nat} {x : Int × Int} (z : Int) (h : l[k]? = some x) : hasP (l.take (k + 1)) z = (hasP (l.take k) z || (x.1 == z)) := by
  rw [take_at h]; unfold hasP; rw [List.any_append]; simp

set_option maxRecDepth 100000 in
set_option maxHeartbeats 2000000 in
theorem parc_any (h : Q w0 w R T ns (pre ++ arcRow v la :: post) D) (hla : la.length ≤ 1000) :
    Calls Try.prog 50 #[.pointer (some ⟨R, 0, none⟩), v] w fun e w' => ∃ v', e = .returned v' ∧ Q w0 w' R T ns (pre ++ arcRow v' (arcD T ns la D).1 :: post) (arcD T ns la D).2 := by
  have hs := sees_any h 1 []
  have H := Lib.hid h
  obtain ⟨A, hA⟩ : ∃ A, A = arcD T ns la D := ⟨_, rfl⟩
  rw [← hA]
  have HA := Lib.hid hA
  clear hA
  have hO := h.mem (r := arcRow v la) (by simp)
  obtain ⟨av, cv, ev⟩ := own_form hO
  obtain ⟨nv, hnv⟩ : ∃ n, n = la.length := ⟨_, rfl⟩
  replace ev : v = .slice av nv cv := by rw [hnv]; exact ev
  subst ev
  have Hnv := Lib.hid hnv
  have Hla := Lib.hid hla
  clear h hnv hla hO
  cases hq : seesD T 1 [] D with
  | false =>
    rw [hq] at hs
    have HA2 : Hid (A = (la, failD T 6 D)) := Lib.hid (by rw [HA.out]; unfold arcD; rw [if_neg (by rw [hq]; simp)])
    clear hq
    go_enter Try.func50, Try.ntmps50
    go_wp2_with fail
    refine hs.mono ?_
    rintro e w1 ⟨rfl, hb⟩
    have hf := fail_any (H.out.go hb) 6
    clear hb hs
    go_wp2_with fail
    refine hf.mono ?_
    rintro e w2 ⟨rfl, hQ⟩
    have HQ := Lib.hid hQ
    clear hQ hf
    go_wp2
    go_ret
    rw [HA2.out]
    exact ⟨_, rfl, HQ.out⟩
  | true =>
    rw [hq] at hs
    obtain ⟨K, hK⟩ : ∃ K, K = kD T ns D := ⟨_, rfl⟩
    have HA2 : Hid (A = if seesD T 3 [42] (arcD2 T ns la D) = true then (la ++ [(K, (numD T 1 (stepD T (arcD2 T ns la D))).1)], (numD T 1 (stepD T (arcD2 T ns la D))).2) else (la ++ [(K, 1)], arcD2 T ns la D)) := Lib.hid (by rw [HA.out, hK]; unfold arcD; rw [if_pos hq])
    have HD1 : Hid (arcD1 T ns la D = if (decide (K < 0) || hasP la K) = true then failD T 7 D else D) := Lib.hid (by rw [hK]; rfl)
    have HK := Lib.hid hK
    clear hq hK
    go_enter Try.func50, Try.ntmps50
    go_wp2_with fail
    refine hs.mono ?_
    rintro e w1 ⟨rfl, hb⟩
    have hQ1 := H.out.go hb
    clear hb hs
    obtain ⟨b, off, c, vp, vt, vn, vo, hC, hbw, hmax, e0, e1, e2, e3⟩ := hQ1.cells
    obtain ⟨c0, c1, c2, c3, c4, c5, c6, c7, fz, lt⟩ := hC
    have hii : (D.i : Int) < (T.length : Int) := by have := hQ1.1; omega
    obtain ⟨na, nc, c6', hna⟩ := hQ1.ns_at
    obtain ⟨nn, hnn⟩ : ∃ n, n = ns.length := ⟨_, rfl⟩
    rw [← hnn] at c6' hna
    have n0 := fun p : NewBy w1 => NewBy.cell (o := 0) lt c0 p
    have n1 := fun p : NewBy w1 => NewBy.cell (o := 1) lt c1 p
    have n6 := fun p : NewBy w1 => NewBy.cell (o := 6) lt c6' p
    have nt := fun p : NewBy w1 => NewBy.cell hbw e1 p
    have nl := fun p : NewBy w1 => Nat.lt_of_lt_of_le lt p.below.size
    have nb := fun p : NewBy w1 => Nat.lt_of_lt_of_le hbw p.below.size
    have K1 := Lib.hid (fun p : NewBy w1 => (plidx_any (s := bs (D.hd T).text) hnn (hna.below p.below)).mono (fun e w' (hh : _ ∧ _) => (⟨by rw [HK.out]; exact hh.1, by rw [hh.2]; exact Below.refl _ _⟩ : e = .returned (.int .i64 K) ∧ Below p.to.heap.size p.to w')))
    have HQ1 := Lib.hid hQ1
    clear c0 c1 c2 c3 c4 c5 c6 c7 fz e0 e1 e2 e3 hQ1 hna c6' hnn
    go_wp2
    refine wp_region_new (by kernel_rfl) (by kernel_rfl) ?_
    repeat (go_big_quiet_step (first | (go_at_call 43; exact Calls.new_of (K1.out _))))
    refine wpQuiet_nil ?_
    intro wz hz
    obtain ⟨pz, hz⟩ := hz
    subst hz
    have HQ2 := Lib.hid (HQ1.out.go pz.below)
    clear n0 n1 n6 nt nl nb K1 HQ1
    generalize pz.to = W at HQ2 ⊢
    have hO2 := OwnA.at_ (HQ2.out.mem (r := arcRow (.slice av nv cv) la) (by simp))
    have HO2 := Lib.hid hO2
    have hmx : nv ≤ 9223372036854775807 := by have := Hla.out; rw [← Hnv.out] at this; omega
    clear hO2
    go_wp2
    go_loop [6, 7] (fun t i => ∃ j : Nat, ∃ q : Bool, j ≤ nv ∧ i = .int .i64 j ∧ t = .bool q ∧ Hid (q = (decide (K < 0) || hasP (la.take j) K))) (fun _ i => nv - (intOf i).toNat)
    case atStart => exact ⟨0, decide (K < 0), by omega, rfl, rfl, Lib.hid (by simp [hasP])⟩
    case round =>
      obtain ⟨j, q, hj, rfl, rfl, Hj⟩ := hrel
      by_cases hlt : j < nv
      · obtain ⟨⟨x, y⟩, hx⟩ := at_lt (l := la) (k := j) (by rw [← Hnv.out]; exact hlt)
        have hlti : (j : Int) < (nv : Int) := by omega
        obtain ⟨b1, off1, rfl, hb1, f0, f1⟩ := ArcsAt.at_ HO2.out hx
        have Hs := Lib.hid (hasP_take K hx)
        clear hx
        cases q with
        | true =>
          have Hr : Hid (true = (decide (K < 0) || hasP (la.take (j + 1)) K)) := Lib.hid (by rw [Hs.out, ← Bool.or_assoc, ← Hj.out]; rfl)
          go_wp2
          go_round
          case rel => exact ⟨j + 1, true, by omega, by go_num, rfl, Hr⟩
          case measure => simp [intOf]; omega
        | false =>
          have Hr : Hid ((x == K) = (decide (K < 0) || hasP (la.take (j + 1)) K)) := Lib.hid (by rw [Hs.out, ← Bool.or_assoc, ← Hj.out]; rfl)
          go_wp2
          go_round
          case rel => exact ⟨j + 1, (x == K), by omega, by go_num, rfl, Hr⟩
          case measure => simp [intOf]; omega
      · have hge : ¬ (j : Int) < (nv : Int) := by omega
        have Hq : Hid (q = (decide (K < 0) || hasP la K)) := Lib.hid (by rw [Hj.out, List.take_of_length_le (by rw [← Hnv.out]; omega)])
        clear Hj HO2
        cases q with
        | true =>
          have hd1 : arcD1 T ns la D = failD T 7 D := by rw [HD1.out, ← Hq.out]; rfl
          by_cases h8 : nv = 8
          · have h8b : ((nv : Int) == 8) = true := by rw [h8]; rfl
            have h8l : la.length = 8 := by rw [← Hnv.out]; exact h8
            clear h8
            have hf7 := fail_any HQ2.out 7
            go_wp2_with fail
            refine hf7.mono ?_
            rintro e y1 ⟨rfl, hY1⟩
            have HY1 := Lib.hid hY1
            clear hY1 hf7
            have hf5 := fail_any HY1.out 5
            rw [← hd1] at hf5
            go_wp2_with fail
            refine hf5.mono ?_
            rintro e y2 ⟨rfl, hY2⟩
            obtain ⟨E, hE⟩ : ∃ E, E = failD T 5 (arcD1 T ns la D) := ⟨_, rfl⟩
            rw [← hE] at hY2
            have HEe : Hid ((if la.length = 8 then failD T 5 (arcD1 T ns la D) else arcD1 T ns la D) = E) := Lib.hid (by rw [if_pos h8l, hE])
            have HE := Lib.hid hY2
            clear hY2 hf5 hE hd1
            have hst := step_any HE.out
            have HD2 : Hid (arcD2 T ns la D = stepD T E) := Lib.hid (by unfold arcD2; rw [HEe.out])
            rw [← HD2.out] at hst
            go_wp2_with fail
            refine hst.mono ?_
            rintro e x1 ⟨rfl, hX1⟩
            have hX2 := hX1.box #[.int .i64 K, .int .i64 1] 37
            have hs3 := sees_any hX2 3 [42]
            have HX2 := Lib.hid hX2
            clear hX1 hX2 hst HE
            generalize arcD2 T ns la D = F at hs3 HX2 HA2 HD2
            cases hq3 : seesD T 3 [42] F with
            | false =>
              rw [hq3] at hs3
              have HA3 : Hid (A = (la ++ [(K, 1)], F)) := Lib.hid (by rw [HA2.out, if_neg (by rw [hq3]; simp)])
              clear hq3
              go_wp2_with fail
              refine hs3.mono ?_
              rintro e x2 ⟨rfl, hb2⟩
              have hX3 := HX2.out.go hb2
              have hB := hX3.mem (r := boxRow x1.heap.size 37 [.int .i64 K, .int .i64 1]) (by simp)
              have g0 := boxRow.cell hB (j := 0) rfl
              have g1 := boxRow.cell hB (j := 1) rfl
              have gl := (boxRow.lt hB).2
              obtain ⟨v', x4, hr, ho, hkk, hf⟩ := run_push_arc 38 K 1 (hX3.mem (r := arcRow (.slice av nv cv) la) (by simp)) (by have := Hla.out; omega) hX3.below.size
              have HX3 := Lib.hid hX3
              have Ho := Lib.hid ho
              have Hkk := Lib.hid hkk
              have Hf := Lib.hid hf
              clear hb2 hs3 hX3 hB ho hkk hf HX2
              go_wp2_with (at_builtin; refine wpList_append_eq rfl (.tmp 68) (.tmp 70) 38 rfl rfl rfl hr ?_)
              go_ret
              rw [HA3.out]
              refine ⟨_, rfl, ?_⟩
              exact HX3.out.drop.swapRow Hkk.out (r' := arcRow v' (la ++ [(K, 1)])) Ho.out (by
                rcases Hf.out with e | e
                · exact .inl e
                · exact .inr ⟨_, e, by omega⟩)
            | true =>
              rw [hq3] at hs3
              have HA3 : Hid (A = (la ++ [(K, (numD T 1 (stepD T F)).1)], (numD T 1 (stepD T F)).2)) := Lib.hid (by rw [HA2.out, if_pos hq3])
              clear hq3
              go_wp2_with fail
              refine hs3.mono ?_
              rintro e x2 ⟨rfl, hb2⟩
              have hst2 := step_any (HX2.out.go hb2)
              clear hb2 hs3 HX2
              go_wp2_with fail
              refine hst2.mono ?_
              rintro e x3 ⟨rfl, hX3⟩
              have hnm := rnumber_any hX3 1
              clear hX3 hst2
              generalize numD T 1 (stepD T F) = G at hnm HA3
              obtain ⟨gn, gd⟩ := G
              simp only at hnm HA3
              go_wp2_with fail
              refine hnm.mono ?_
              rintro e x4 ⟨rfl, hX4⟩
              have hB := hX4.mem (r := boxRow x1.heap.size 37 [.int .i64 K, .int .i64 1]) (by simp)
              have g0 := boxRow.cell hB (j := 0) rfl
              have g1 := boxRow.cell hB (j := 1) rfl
              have gl := (boxRow.lt hB).2
              have gf := boxRow.froz hB 1
              have hX5 := hX4.setRow (post := []) 1 (.int .i64 gn)
              obtain ⟨v', x6, hr, ho, hkk, hf⟩ := run_push_arc 38 K gn (hX5.mem (r := arcRow (.slice av nv cv) la) (by simp)) (by have := Hla.out; omega) hX5.below.size
              have HX5 := Lib.hid hX5
              have Ho := Lib.hid ho
              have Hkk := Lib.hid hkk
              have Hf := Lib.hid hf
              rw [show (x4.setCell ⟨x1.heap.size, 1, none⟩ (.int .i64 gn)).heap.size = x4.heap.size from World.size_setCell _ _ _] at hr
              clear hX4 hX5 hB ho hkk hf hnm
              go_wp2_with (at_builtin; refine wpList_append_eq rfl (.tmp 68) (.tmp 70) 38 rfl rfl rfl hr ?_)
              go_ret
              rw [HA3.out]
              refine ⟨_, rfl, ?_⟩
              exact HX5.out.drop.swapRow Hkk.out (r' := arcRow v' (la ++ [(K, gn)])) Ho.out (by
                rcases Hf.out with e | e
                · exact .inl e
                · exact .inr ⟨_, e, by omega⟩)
          · have h8b : ((nv : Int) == 8) = false := by simp; omega
            have h8l : ¬ la.length = 8 := by rw [← Hnv.out]; exact h8
            clear h8
            have hf7 := fail_any HQ2.out 7
            go_wp2_with fail
            refine hf7.mono ?_
            rintro e y1 ⟨rfl, hY1⟩
            have HY1 := Lib.hid hY1
            clear hY1 hf7
            obtain ⟨E, hE⟩ : ∃ E, E = arcD1 T ns la D := ⟨_, rfl⟩
            have HE := HY1
            rw [← hd1, ← hE] at HE
            have HEe : Hid ((if la.length = 8 then failD T 5 (arcD1 T ns la D) else arcD1 T ns la D) = E) := Lib.hid (by rw [if_neg h8l, hE])
            clear hE hd1
            have hst := step_any HE.out
            have HD2 : Hid (arcD2 T ns la D = stepD T E) := Lib.hid (by unfold arcD2; rw [HEe.out])
            rw [← HD2.out] at hst
            go_wp2_with fail
            refine hst.mono ?_
            rintro e x1 ⟨rfl, hX1⟩
            have hX2 := hX1.box #[.int .i64 K, .int .i64 1] 37
            have hs3 := sees_any hX2 3 [42]
            have HX2 := Lib.hid hX2
            clear hX1 hX2 hst HE
            generalize arcD2 T ns la D = F at hs3 HX2 HA2 HD2
            cases hq3 : seesD T 3 [42] F with
            | false =>
              rw [hq3] at hs3
              have HA3 : Hid (A = (la ++ [(K, 1)], F)) := Lib.hid (by rw [HA2.out, if_neg (by rw [hq3]; simp)])
              clear hq3
              go_wp2_with fail
              refine hs3.mono ?_
              rintro e x2 ⟨rfl, hb2⟩
              have hX3 := HX2.out.go hb2
              have hB := hX3.mem (r := boxRow x1.heap.size 37 [.int .i64 K, .int .i64 1]) (by simp)
              have g0 := boxRow.cell hB (j := 0) rfl
              have g1 := boxRow.cell hB (j := 1) rfl
              have gl := (boxRow.lt hB).2
              obtain ⟨v', x4, hr, ho, hkk, hf⟩ := run_push_arc 38 K 1 (hX3.mem (r := arcRow (.slice av nv cv) la) (by simp)) (by have := Hla.out; omega) hX3.below.size
              have HX3 := Lib.hid hX3
              have Ho := Lib.hid ho
              have Hkk := Lib.hid hkk
              have Hf := Lib.hid hf
              clear hb2 hs3 hX3 hB ho hkk hf HX2
              go_wp2_with (at_builtin; refine wpList_append_eq rfl (.tmp 68) (.tmp 70) 38 rfl rfl rfl hr ?_)
              go_ret
              rw [HA3.out]
              refine ⟨_, rfl, ?_⟩
              exact HX3.out.drop.swapRow Hkk.out (r' := arcRow v' (la ++ [(K, 1)])) Ho.out (by
                rcases Hf.out with e | e
                · exact .inl e
                · exact .inr ⟨_, e, by omega⟩)
            | true =>
              rw [hq3] at hs3
              have HA3 : Hid (A = (la ++ [(K, (numD T 1 (stepD T F)).1)], (numD T 1 (stepD T F)).2)) := Lib.hid (by rw [HA2.out, if_pos hq3])
              clear hq3
              go_wp2_with fail
              refine hs3.mono ?_
              rintro e x2 ⟨rfl, hb2⟩
              have hst2 := step_any (HX2.out.go hb2)
              clear hb2 hs3 HX2
              go_wp2_with fail
              refine hst2.mono ?_
              rintro e x3 ⟨rfl, hX3⟩
              have hnm := rnumber_any hX3 1
              clear hX3 hst2
              generalize numD T 1 (stepD T F) = G at hnm HA3
              obtain ⟨gn, gd⟩ := G
              simp only at hnm HA3
              go_wp2_with fail
              refine hnm.mono ?_
              rintro e x4 ⟨rfl, hX4⟩
              have hB := hX4.mem (r := boxRow x1.heap.size 37 [.int .i64 K, .int .i64 1]) (by simp)
              have g0 := boxRow.cell hB (j := 0) rfl
              have g1 := boxRow.cell hB (j := 1) rfl
              have gl := (boxRow.lt hB).2
              have gf := boxRow.froz hB 1
              have hX5 := hX4.setRow (post := []) 1 (.int .i64 gn)
              obtain ⟨v', x6, hr, ho, hkk, hf⟩ := run_push_arc 38 K gn (hX5.mem (r := arcRow (.slice av nv cv) la) (by simp)) (by have := Hla.out; omega) hX5.below.size
              have HX5 := Lib.hid hX5
              have Ho := Lib.hid ho
              have Hkk := Lib.hid hkk
              have Hf := Lib.hid hf
              rw [show (x4.setCell ⟨x1.heap.size, 1, none⟩ (.int .i64 gn)).heap.size = x4.heap.size from World.size_setCell _ _ _] at hr
              clear hX4 hX5 hB ho hkk hf hnm
              go_wp2_with (at_builtin; refine wpList_append_eq rfl (.tmp 68) (.tmp 70) 38 rfl rfl rfl hr ?_)
              go_ret
              rw [HA3.out]
              refine ⟨_, rfl, ?_⟩
              exact HX5.out.drop.swapRow Hkk.out (r' := arcRow v' (la ++ [(K, gn)])) Ho.out (by
                rcases Hf.out with e | e
                · exact .inl e
                · exact .inr ⟨_, e, by omega⟩)
        | false =>
          have hd1 : arcD1 T ns la D = D := by rw [HD1.out, ← Hq.out]; rfl
          by_cases h8 : nv = 8
          · have h8b : ((nv : Int) == 8) = true := by rw [h8]; rfl
            have h8l : la.length = 8 := by rw [← Hnv.out]; exact h8
            clear h8
            have hf5 := fail_any HQ2.out 5
            rw [← hd1] at hf5
            go_wp2_with fail
            refine hf5.mono ?_
            rintro e y2 ⟨rfl, hY2⟩
            obtain ⟨E, hE⟩ : ∃ E, E = failD T 5 (arcD1 T ns la D) := ⟨_, rfl⟩
            rw [← hE] at hY2
            have HEe : Hid ((if la.length = 8 then failD T 5 (arcD1 T ns la D) else arcD1 T ns la D) = E) := Lib.hid (by rw [if_pos h8l, hE])
            have HE := Lib.hid hY2
            clear hY2 hf5 hE hd1
            have hst := step_any HE.out
            have HD2 : Hid (arcD2 T ns la D = stepD T E) := Lib.hid (by unfold arcD2; rw [HEe.out])
            rw [← HD2.out] at hst
            go_wp2_with fail
            refine hst.mono ?_
            rintro e x1 ⟨rfl, hX1⟩
            have hX2 := hX1.box #[.int .i64 K, .int .i64 1] 37
            have hs3 := sees_any hX2 3 [42]
            have HX2 := Lib.hid hX2
            clear hX1 hX2 hst HE
            generalize arcD2 T ns la D = F at hs3 HX2 HA2 HD2
            cases hq3 : seesD T 3 [42] F with
            | false =>
              rw [hq3] at hs3
              have HA3 : Hid (A = (la ++ [(K, 1)], F)) := Lib.hid (by rw [HA2.out, if_neg (by rw [hq3]; simp)])
              clear hq3
              go_wp2_with fail
              refine hs3.mono ?_
              rintro e x2 ⟨rfl, hb2⟩
              have hX3 := HX2.out.go hb2
              have hB := hX3.mem (r := boxRow x1.heap.size 37 [.int .i64 K, .int .i64 1]) (by simp)
              have g0 := boxRow.cell hB (j := 0) rfl
              have g1 := boxRow.cell hB (j := 1) rfl
              have gl := (boxRow.lt hB).2
              obtain ⟨v', x4, hr, ho, hkk, hf⟩ := run_push_arc 38 K 1 (hX3.mem (r := arcRow (.slice av nv cv) la) (by simp)) (by have := Hla.out; omega) hX3.below.size
              have HX3 := Lib.hid hX3
              have Ho := Lib.hid ho
              have Hkk := Lib.hid hkk
              have Hf := Lib.hid hf
              clear hb2 hs3 hX3 hB ho hkk hf HX2
              go_wp2_with (at_builtin; refine wpList_append_eq rfl (.tmp 68) (.tmp 70) 38 rfl rfl rfl hr ?_)
              go_ret
              rw [HA3.out]
              refine ⟨_, rfl, ?_⟩
              exact HX3.out.drop.swapRow Hkk.out (r' := arcRow v' (la ++ [(K, 1)])) Ho.out (by
                rcases Hf.out with e | e
                · exact .inl e
                · exact .inr ⟨_, e, by omega⟩)
            | true =>
              rw [hq3] at hs3
              have HA3 : Hid (A = (la ++ [(K, (numD T 1 (stepD T F)).1)], (numD T 1 (stepD T F)).2)) := Lib.hid (by rw [HA2.out, if_pos hq3])
              clear hq3
              go_wp2_with fail
              refine hs3.mono ?_
              rintro e x2 ⟨rfl, hb2⟩
              have hst2 := step_any (HX2.out.go hb2)
              clear hb2 hs3 HX2
              go_wp2_with fail
              refine hst2.mono ?_
              rintro e x3 ⟨rfl, hX3⟩
              have hnm := rnumber_any hX3 1
              clear hX3 hst2
              generalize numD T 1 (stepD T F) = G at hnm HA3
              obtain ⟨gn, gd⟩ := G
              simp only at hnm HA3
              go_wp2_with fail
              refine hnm.mono ?_
              rintro e x4 ⟨rfl, hX4⟩
              have hB := hX4.mem (r := boxRow x1.heap.size 37 [.int .i64 K, .int .i64 1]) (by simp)
              have g0 := boxRow.cell hB (j := 0) rfl
              have g1 := boxRow.cell hB (j := 1) rfl
              have gl := (boxRow.lt hB).2
              have gf := boxRow.froz hB 1
              have hX5 := hX4.setRow (post := []) 1 (.int .i64 gn)
              obtain ⟨v', x6, hr, ho, hkk, hf⟩ := run_push_arc 38 K gn (hX5.mem (r := arcRow (.slice av nv cv) la) (by simp)) (by have := Hla.out; omega) hX5.below.size
              have HX5 := Lib.hid hX5
              have Ho := Lib.hid ho
              have Hkk := Lib.hid hkk
              have Hf := Lib.hid hf
              rw [show (x4.setCell ⟨x1.heap.size, 1, none⟩ (.int .i64 gn)).heap.size = x4.heap.size from World.size_setCell _ _ _] at hr
              clear hX4 hX5 hB ho hkk hf hnm
              go_wp2_with (at_builtin; refine wpList_append_eq rfl (.tmp 68) (.tmp 70) 38 rfl rfl rfl hr ?_)
              go_ret
              rw [HA3.out]
              refine ⟨_, rfl, ?_⟩
              exact HX5.out.drop.swapRow Hkk.out (r' := arcRow v' (la ++ [(K, gn)])) Ho.out (by
                rcases Hf.out with e | e
                · exact .inl e
                · exact .inr ⟨_, e, by omega⟩)
          · have h8b : ((nv : Int) == 8) = false := by simp; omega
            have h8l : ¬ la.length = 8 := by rw [← Hnv.out]; exact h8
            clear h8
            obtain ⟨E, hE⟩ : ∃ E, E = arcD1 T ns la D := ⟨_, rfl⟩
            have HE := HQ2
            rw [← hd1, ← hE] at HE
            have HEe : Hid ((if la.length = 8 then failD T 5 (arcD1 T ns la D) else arcD1 T ns la D) = E) := Lib.hid (by rw [if_neg h8l, hE])
            clear hE hd1
            have hst := step_any HE.out
            have HD2 : Hid (arcD2 T ns la D = stepD T E) := Lib.hid (by unfold arcD2; rw [HEe.out])
            rw [← HD2.out] at hst
            go_wp2_with fail
            refine hst.mono ?_
            rintro e x1 ⟨rfl, hX1⟩
            have hX2 := hX1.box #[.int .i64 K, .int .i64 1] 37
            have hs3 := sees_any hX2 3 [42]
            have HX2 := Lib.hid hX2
            clear hX1 hX2 hst HE
            generalize arcD2 T ns la D = F at hs3 HX2 HA2 HD2
            cases hq3 : seesD T 3 [42] F with
            | false =>
              rw [hq3] at hs3
              have HA3 : Hid (A = (la ++ [(K, 1)], F)) := Lib.hid (by rw [HA2.out, if_neg (by rw [hq3]; simp)])
              clear hq3
              go_wp2_with fail
              refine hs3.mono ?_
              rintro e x2 ⟨rfl, hb2⟩
              have hX3 := HX2.out.go hb2
              have hB := hX3.mem (r := boxRow x1.heap.size 37 [.int .i64 K, .int .i64 1]) (by simp)
              have g0 := boxRow.cell hB (j := 0) rfl
              have g1 := boxRow.cell hB (j := 1) rfl
              have gl := (boxRow.lt hB).2
              obtain ⟨v', x4, hr, ho, hkk, hf⟩ := run_push_arc 38 K 1 (hX3.mem (r := arcRow (.slice av nv cv) la) (by simp)) (by have := Hla.out; omega) hX3.below.size
              have HX3 := Lib.hid hX3
              have Ho := Lib.hid ho
              have Hkk := Lib.hid hkk
              have Hf := Lib.hid hf
              clear hb2 hs3 hX3 hB ho hkk hf HX2
              go_wp2_with (at_builtin; refine wpList_append_eq rfl (.tmp 68) (.tmp 70) 38 rfl rfl rfl hr ?_)
              go_ret
              rw [HA3.out]
              refine ⟨_, rfl, ?_⟩
              exact HX3.out.drop.swapRow Hkk.out (r' := arcRow v' (la ++ [(K, 1)])) Ho.out (by
                rcases Hf.out with e | e
                · exact .inl e
                · exact .inr ⟨_, e, by omega⟩)
            | true =>
              rw [hq3] at hs3
              have HA3 : Hid (A = (la ++ [(K, (numD T 1 (stepD T F)).1)], (numD T 1 (stepD T F)).2)) := Lib.hid (by rw [HA2.out, if_pos hq3])
              clear hq3
              go_wp2_with fail
              refine hs3.mono ?_
              rintro e x2 ⟨rfl, hb2⟩
              have hst2 := step_any (HX2.out.go hb2)
              clear hb2 hs3 HX2
              go_wp2_with fail
              refine hst2.mono ?_
              rintro e x3 ⟨rfl, hX3⟩
              have hnm := rnumber_any hX3 1
              clear hX3 hst2
              generalize numD T 1 (stepD T F) = G at hnm HA3
              obtain ⟨gn, gd⟩ := G
              simp only at hnm HA3
              go_wp2_with fail
              refine hnm.mono ?_
              rintro e x4 ⟨rfl, hX4⟩
              have hB := hX4.mem (r := boxRow x1.heap.size 37 [.int .i64 K, .int .i64 1]) (by simp)
              have g0 := boxRow.cell hB (j := 0) rfl
              have g1 := boxRow.cell hB (j := 1) rfl
              have gl := (boxRow.lt hB).2
              have gf := boxRow.froz hB 1
              have hX5 := hX4.setRow (post := []) 1 (.int .i64 gn)
              obtain ⟨v', x6, hr, ho, hkk, hf⟩ := run_push_arc 38 K gn (hX5.mem (r := arcRow (.slice av nv cv) la) (by simp)) (by have := Hla.out; omega) hX5.below.size
              have HX5 := Lib.hid hX5
              have Ho := Lib.hid ho
              have Hkk := Lib.hid hkk
              have Hf := Lib.hid hf
              rw [show (x4.setCell ⟨x1.heap.size, 1, none⟩ (.int .i64 gn)).heap.size = x4.heap.size from World.size_setCell _ _ _] at hr
              clear hX4 hX5 hB ho hkk hf hnm
              go_wp2_with (at_builtin; refine wpList_append_eq rfl (.tmp 68) (.tmp 70) 38 rfl rfl rfl hr ?_)
              go_ret
              rw [HA3.out]
              refine ⟨_, rfl, ?_⟩
              exact HX5.out.drop.swapRow Hkk.out (r' := arcRow v' (la ++ [(K, gn)])) Ho.out (by
                rcases Hf.out with e | e
                · exact .inl e
                · exact .inr ⟨_, e, by omega⟩)
end
end Go.Proofs.Ytfiielibnnodkaa
