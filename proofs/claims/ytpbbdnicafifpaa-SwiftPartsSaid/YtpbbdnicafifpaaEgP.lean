/-
  What Result of the engine comes to: what it has come to, in lists of its own.
  Conditions: none beyond each theorem's own.
-/
import Derived.Test.YtpbbdnicafifpaaCloneF
namespace Go.Proofs.Ytpbbdnicafifpaa
open Go.RowKit
set_option linter.unusedVariables false

/-- a result under way: what of it is copied yet -/
structure RP (R b : Nat) (w1 W : World) (vl vm vw : Value) (t : Int) (lg : List (Int × Int)) (m wy : List Int) (o1 o2 o3 : Option Value) : Prop where
  low : Below w1.heap.size w1 W
  bl : b < w1.heap.size
  rl : R < w1.heap.size
  r0 : w1.cell? ⟨R, 0, none⟩ = some (.slice none 0 0)
  r1 : w1.cell? ⟨R, 1, none⟩ = some (.slice none 0 0)
  r2 : w1.cell? ⟨R, 2, none⟩ = some (.slice none 0 0)
  r3 : w1.cell? ⟨R, 3, none⟩ = some (.int .i64 0)
  rf : ∀ j, w1.frozen? ⟨R, j, none⟩ = false
  k8 : w1.cell? ⟨b, 8, none⟩ = some vl
  k9 : w1.cell? ⟨b, 9, none⟩ = some vm
  k10 : w1.cell? ⟨b, 10, none⟩ = some vw
  k11 : w1.cell? ⟨b, 11, none⟩ = some (.int .i64 t)
  s1 : FisAt w1 vl lg
  s2 : IntsAt w1 vm m
  s3 : IntsAt w1 vw wy
  l1 : lg.length ≤ 1000000
  l2 : m.length ≤ 1000000
  l3 : wy.length ≤ 1000000
  g1 : ∀ v, o1 = some v → W.ownsRow w1.heap.size 55 2 v lg.length (lg.flatMap fiL)
  g2 : ∀ v, o2 = some v → OwnI w1.heap.size W v m
  g3 : ∀ v, o3 = some v → OwnI w1.heap.size W v wy
section
variable {R b : Nat} {w1 W W' : World} {vl vm vw : Value} {t : Int} {lg : List (Int × Int)} {m wy : List Int} {o1 o2 o3 : Option Value}
theorem RP.cells (h : RP R b w1 W vl vm vw t lg m wy o1 o2 o3) : W.cell? ⟨b, 8, none⟩ = some vl ∧ W.cell? ⟨b, 9, none⟩ = some vm ∧ W.cell? ⟨b, 10, none⟩ = some vw ∧ W.cell? ⟨b, 11, none⟩ = some (.int .i64 t) :=
  ⟨(below_cells h.low b 8 h.bl).trans h.k8, (below_cells h.low b 9 h.bl).trans h.k9, (below_cells h.low b 10 h.bl).trans h.k10, (below_cells h.low b 11 h.bl).trans h.k11⟩
theorem RP.rbox (h : RP R b w1 W vl vm vw t lg m wy o1 o2 o3) : W.cell? ⟨R, 0, none⟩ = some (.slice none 0 0) ∧ W.cell? ⟨R, 1, none⟩ = some (.slice none 0 0) ∧ W.cell? ⟨R, 2, none⟩ = some (.slice none 0 0) ∧ W.cell? ⟨R, 3, none⟩ = some (.int .i64 0) ∧ W.frozen? ⟨R, 0, none⟩ = false ∧ W.frozen? ⟨R, 1, none⟩ = false ∧ W.frozen? ⟨R, 2, none⟩ = false ∧ W.frozen? ⟨R, 3, none⟩ = false ∧ R < W.heap.size :=
  ⟨(below_cells h.low R 0 h.rl).trans h.r0, (below_cells h.low R 1 h.rl).trans h.r1, (below_cells h.low R 2 h.rl).trans h.r2, (below_cells h.low R 3 h.rl).trans h.r3,
    (h.low.frozen (p := ⟨R, 0, none⟩) h.rl).trans (h.rf 0), (h.low.frozen (p := ⟨R, 1, none⟩) h.rl).trans (h.rf 1), (h.low.frozen (p := ⟨R, 2, none⟩) h.rl).trans (h.rf 2), (h.low.frozen (p := ⟨R, 3, none⟩) h.rl).trans (h.rf 3), Nat.lt_of_lt_of_le h.rl h.low.size⟩
theorem RP.go (h : RP R b w1 W vl vm vw t lg m wy o1 o2 o3) (hb : Below W.heap.size W W') : RP R b w1 W' vl vm vw t lg m wy o1 o2 o3 :=
  ⟨h.low.trans (hb.mono h.low.size), h.bl, h.rl, h.r0, h.r1, h.r2, h.r3, h.rf, h.k8, h.k9, h.k10, h.k11, h.s1, h.s2, h.s3, h.l1, h.l2, h.l3,
    fun v e => ownS (S := fun _ => False) (h.g1 v e) (Kept.of_below hb) (fun _ _ e => e), fun v e => ownS (S := fun _ => False) (h.g2 v e) (Kept.of_below hb) (fun _ _ e => e), fun v e => ownS (S := fun _ => False) (h.g3 v e) (Kept.of_below hb) (fun _ _ e => e)⟩
theorem RP.one {a : Option Addr} {n c : Nat} (h : RP R b w1 W (.slice a n c) vm vw t lg m wy o1 o2 o3) :
    Calls Try.prog 65 #[.slice a n c] W fun e w' => ∃ a' n' c', e = .returned (.slice a' n' c') ∧ RP R b w1 w' (.slice a n c) vm vw t lg m wy (some (.slice a' n' c')) o2 o3 := by
  refine (cloneFis_any (h.s1.below h.low) h.l1).mono ?_
  rintro e w' ⟨a', n', c', rfl, ho, hb⟩
  refine ⟨a', n', c', rfl, ?_⟩
  have g := h.go hb
  exact ⟨g.low, g.bl, g.rl, g.r0, g.r1, g.r2, g.r3, g.rf, g.k8, g.k9, g.k10, g.k11, g.s1, g.s2, g.s3, g.l1, g.l2, g.l3, fun v e => by injection e with e; subst e; exact own_mono ho h.low.size, g.g2, g.g3⟩
theorem RP.two {a : Option Addr} {n c : Nat} (h : RP R b w1 W vl (.slice a n c) vw t lg m wy o1 o2 o3) :
    Calls Try.prog 66 #[.slice a n c] W fun e w' => ∃ a' n' c', e = .returned (.slice a' n' c') ∧ RP R b w1 w' vl (.slice a n c) vw t lg m wy o1 (some (.slice a' n' c')) o3 := by
  refine (cloneInts_any (h.s2.below h.low) h.l2).mono ?_
  rintro e w' ⟨a', n', c', rfl, ho, hb⟩
  refine ⟨a', n', c', rfl, ?_⟩
  have g := h.go hb
  exact ⟨g.low, g.bl, g.rl, g.r0, g.r1, g.r2, g.r3, g.rf, g.k8, g.k9, g.k10, g.k11, g.s1, g.s2, g.s3, g.l1, g.l2, g.l3, g.g1, fun v e => by injection e with e; subst e; exact own_mono ho h.low.size, g.g3⟩
theorem RP.three {a : Option Addr} {n c : Nat} (h : RP R b w1 W vl vm (.slice a n c) t lg m wy o1 o2 o3) :
    Calls Try.prog 66 #[.slice a n c] W fun e w' => ∃ a' n' c', e = .returned (.slice a' n' c') ∧ RP R b w1 w' vl vm (.slice a n c) t lg m wy o1 o2 (some (.slice a' n' c')) := by
  refine (cloneInts_any (h.s3.below h.low) h.l3).mono ?_
  rintro e w' ⟨a', n', c', rfl, ho, hb⟩
  refine ⟨a', n', c', rfl, ?_⟩
  have g := h.go hb
  exact ⟨g.low, g.bl, g.rl, g.r0, g.r1, g.r2, g.r3, g.rf, g.k8, g.k9, g.k10, g.k11, g.s1, g.s2, g.s3, g.l1, g.l2, g.l3, g.g1, g.g2, fun v e => by injection e with e; subst e; exact own_mono ho h.low.size⟩
end

/-- a slice that lies in no block below -/
def NewV (B : Nat) (v : Value) : Prop := ∀ k, Value.inBlock v k → B ≤ k
theorem NewV.of_own {B C e size n : Nat} {w : World} {v : Value} {xs : List Value} (h : w.ownsRow B e size v n xs) (hC : C ≤ B) : NewV C v := by
  rintro k ⟨b, off, m, cap, hv, rfl⟩
  rcases h.2 with ⟨e1, _⟩ | ⟨r, c, cur, e1, hB, _⟩
  · rw [e1] at hv; cases hv
  · rw [e1] at hv
    injection hv with hv
    injection hv with hv
    injection hv with hv
    omega
theorem RowAt.store {size n : Nat} {w : World} {v : Value} {xs : List Value} {B R : Nat} (h : RowAt size w v n xs) (hv : NewV B v) (hR : R < B) {w' : World} (hk : Kept (fun k => k = R) w w') : RowAt size w' v n xs :=
  h.kept hk (fun k hk2 e => by have := hv k hk2; omega)
/-- what the engine has come to, handed out -/
def EgRes (w w' : World) (r : Ending) (e : Eg) : Prop := ∃ al cl am cm aw cw, r = .returned (resV (.slice al e.log.length cl) (.slice am e.m.length cm) (.slice aw e.way.length cw) e.t) ∧ FisAt w' (.slice al e.log.length cl) e.log ∧ IntsAt w' (.slice am e.m.length cm) e.m ∧ IntsAt w' (.slice aw e.way.length cw) e.way ∧ (NewV w.heap.size (.slice al e.log.length cl) ∧ NewV w.heap.size (.slice am e.m.length cm) ∧ NewV w.heap.size (.slice aw e.way.length cw)) ∧ Below w.heap.size w w'

theorem eres_ret (W : World) (R : Nat) (v0 v1 v2 v3 : Value) (h0 : W.cell? ⟨R, 0, none⟩ = some v0) (h1 : W.cell? ⟨R, 1, none⟩ = some v1) (h2 : W.cell? ⟨R, 2, none⟩ = some v2) (h3 : W.cell? ⟨R, 3, none⟩ = some v3) (tmps : Array Value) (ht : tmps[2]?.getD undef = .pointer (some ⟨R, 0, none⟩)) :
    (results Try.f35 tmps).run Try.prog W = .ok (.agg #[v0, v1, v2, v3]) W := by
  simp [results, Try.results35, go_sem, ht, h0, h1, h2, h3]

theorem RP.fin {b R : Nat} {w w1 W : World} {vl vm vw v1 v2 v3 : Value} {e : Eg} (hw1 : w1 = w.alloc (.cells #[.slice none 0 0, .slice none 0 0, .slice none 0 0, .int .i64 0] 51)) (h : RP R b w1 W vl vm vw e.t e.log e.m e.way (some v1) (some v2) (some v3)) :
    ∃ W', W' = ((((W.setCell ⟨w.heap.size, 0, none⟩ v1).setCell ⟨w.heap.size, 1, none⟩ v2).setCell ⟨w.heap.size, 2, none⟩ v3).setCell ⟨w.heap.size, 3, none⟩ (.int .i64 e.t)) ∧ W'.cell? ⟨w.heap.size, 0, none⟩ = some v1 ∧ W'.cell? ⟨w.heap.size, 1, none⟩ = some v2 ∧ W'.cell? ⟨w.heap.size, 2, none⟩ = some v3 ∧ W'.cell? ⟨w.heap.size, 3, none⟩ = some (.int .i64 e.t) ∧ EgRes w W' (.returned (resV v1 v2 v3 e.t)) e := by
  have hs1 : w1.heap.size = w.heap.size + 1 := by rw [hw1]; simp
  have hR : AllOwn w.heap.size w1 [boxRow w.heap.size 51 [.slice none 0 0, .slice none 0 0, .slice none 0 0, .int .i64 0]] := by
    rw [hw1]
    exact (AllOwn.nil w.heap.size w).add ((Below.refl _ _).alloc (Nat.le_refl _) _) (boxRow.new w.heap.size w 51 #[.slice none 0 0, .slice none 0 0, .slice none 0 0, .int .i64 0] (Nat.le_refl _)) (fun k e => by injection e with e; subst e; exact Nat.le_refl _)
  have hf := fill9 (hR.below h.low) v1 v2 v3 (.int .i64 e.t)
  have hB := hf.1.own (boxRow w.heap.size 51 [v1, v2, v3, .int .i64 e.t]) (by simp)
  have f1 := ownS (h.g1 v1 rfl) hf.2 (fun r hr e => by have := (World.ownsRow.lt (h.g1 v1 rfl) r hr).1; omega)
  have f2 := ownS (h.g2 v2 rfl) hf.2 (fun r hr e => by have := (World.ownsRow.lt (h.g2 v2 rfl) r hr).1; omega)
  have f3 := ownS (h.g3 v3 rfl) hf.2 (fun r hr e => by have := (World.ownsRow.lt (h.g3 v3 rfl) r hr).1; omega)
  obtain ⟨p1, q1, rfl⟩ := own_form f1
  obtain ⟨p2, q2, rfl⟩ := own_form f2
  obtain ⟨p3, q3, rfl⟩ := own_form f3
  have hb1 : Below w.heap.size w w1 := by rw [hw1]; exact (Below.refl _ _).alloc (Nat.le_refl _) _
  exact ⟨_, rfl, boxRow.cell hB rfl, boxRow.cell hB rfl, boxRow.cell hB rfl, boxRow.cell hB rfl, p1, q1, p2, q2, p3, q3, rfl, RowAt.of_own f1, RowAt.of_own f2, RowAt.of_own f3, ⟨NewV.of_own f1 (by omega), NewV.of_own f2 (by omega), NewV.of_own f3 (by omega)⟩, (hb1.trans (h.low.mono hb1.size)).trans (hf.2.below (fun j e => by omega) (by have := h.low.size; omega))⟩

set_option maxRecDepth 100000 in
set_option maxHeartbeats 4000000 in
theorem eresult_any {w0 w : World} {c : EC} {e : Eg} (h : EgAt w0 w c e) (hl1 : e.log.length ≤ 1000000) (hl2 : e.m.length ≤ 1000000) (hl3 : e.way.length ≤ 1000000) :
    Calls Try.prog 35 #[.pointer (some ⟨c.b, 0, none⟩)] w fun r w' => EgRes w w' r e := by
  obtain ⟨w1, hw1⟩ : ∃ w1, w1 = w.alloc (.cells #[.slice none 0 0, .slice none 0 0, .slice none 0 0, .int .i64 0] 51) := ⟨_, rfl⟩
  have hb1 : Below w.heap.size w w1 := by rw [hw1]; exact (Below.refl _ _).alloc (Nat.le_refl _) _
  have g := h.go hb1
  have kb := g.cells.2.2.2.2.2.2.2.2.1
  obtain ⟨al, nl, cl, am, nm, cm, aw, nw, cw, hrp⟩ : ∃ al nl cl am nm cm aw nw cw, RP w.heap.size c.b w1 w1.drew (.slice al nl cl) (.slice am nm cm) (.slice aw nw cw) e.t e.log e.m e.way none none none := by
    have k9 := g.cells.2.2.2.2.2.1
    have k10 := g.cells.2.2.2.2.2.2.1
    have k11 := g.cells.2.2.2.2.2.2.2.1
    have hM := g.ints
    have hW := g.ways
    have hRb : (boxRow w.heap.size 51 [.slice none 0 0, .slice none 0 0, .slice none 0 0, .int .i64 0]).own w.heap.size w1 := by
      rw [hw1]; exact boxRow.new w.heap.size w 51 #[.slice none 0 0, .slice none 0 0, .slice none 0 0, .int .i64 0] (Nat.le_refl _)
    obtain ⟨vd, vr, vo, vl, hA, _⟩ := g
    have hB := hA.own (boxRow c.b 105 (egCs c vd vr vo vl e.t)) (by simp [egRows])
    have hF : World.ownsRow w1 w0.heap.size 55 2 vl e.log.length (e.log.flatMap fiL) := hA.own (fiRow vl e.log) (by simp [egRows])
    obtain ⟨p, q, rfl⟩ := own_form hF
    exact ⟨_, _, _, _, _, _, _, _, _, (Below.refl _ _).drew, kb, by rw [hw1]; simp, by rw [hw1]; go_simp, by rw [hw1]; go_simp, by rw [hw1]; go_simp, by rw [hw1]; go_simp, (fun j => boxRow.froz hRb j), boxRow.cell hB rfl, k9, k10, k11, RowAt.of_own hF, hM.at_, hW.at_, hl1, hl2, hl3, (fun v e => by cases e), (fun v e => by cases e), (fun v e => by cases e)⟩
  obtain ⟨k8, k9, k10, k11⟩ := hrp.cells
  have kb' : c.b < w1.heap.size := kb
  have kw : c.b < w.heap.size := h.cells.2.2.2.2.2.2.2.2.1
  have kne : ¬ w.heap.size = c.b := by omega
  have kne2 : ¬ c.b = w.heap.size := by omega
  have H := Lib.hid hrp
  have Hw1 := Lib.hid hw1
  obtain ⟨b, hb⟩ : ∃ b, b = c.b := ⟨_, rfl⟩
  rw [← hb] at H k8 k9 k10 k11 kb kb' kw kne kne2 ⊢
  clear h g hb1 hrp hw1 hb hl1 hl2 hl3
  go_enter Try.func35, Try.ntmps35
  go_wp2
  rw [← Hw1.out]
  have kk := And.intro k8 (And.intro k9 (And.intro k10 k11))
  go_region_held3 (fun w' => w'.cell? ⟨b, 8, none⟩ = some (.slice al nl cl) ∧ w'.cell? ⟨b, 9, none⟩ = some (.slice am nm cm) ∧ w'.cell? ⟨b, 10, none⟩ = some (.slice aw nw cw) ∧ w'.cell? ⟨b, 11, none⟩ = some (.int .i64 e.t)) (first | go_keep | exact kk) (first | (go_simp; go_at_call 65; refine H.out.one.mono ?_; rintro r w4 ⟨a1, n1, c1, rfl, h4⟩; have kk := h4.cells; obtain ⟨r0, r1, r2, r3, q0, q1, q2, q3, rl⟩ := h4.rbox; have H := Lib.hid h4; clear h4) | (go_simp; go_at_call 66; refine H.out.two.mono ?_; rintro r w4 ⟨a2, n2, c2, rfl, h4⟩; have kk := h4.cells; obtain ⟨r0, r1, r2, r3, q0, q1, q2, q3, rl⟩ := h4.rbox; have H := Lib.hid h4; clear h4) | (go_simp; go_at_call 66; refine H.out.three.mono ?_; rintro r w4 ⟨a3, n3, c3, rfl, h4⟩; have kk := h4.cells; obtain ⟨r0, r1, r2, r3, q0, q1, q2, q3, rl⟩ := h4.rbox; have H := Lib.hid h4; clear h4))
  all_goals
    have hfin := H.out.fin Hw1.out
    clear r0 r1 r2 r3 q0 q1 q2 q3 rl kk k8 k9 k10 k11 kb kb' kw kne kne2
    obtain ⟨W', eW, c0, c1, c2, c3, hres⟩ := hfin
    have Hc := Lib.hid (And.intro c0 (And.intro c1 (And.intro c2 (And.intro c3 hres))))
    clear c0 c1 c2 c3 hres
    subst eW
    go_wp2
    obtain ⟨c0, c1, c2, c3, hres⟩ := Hc.out
    exact bodyPost_ret (eres_ret _ _ _ _ _ _ c0 c1 c2 c3 _ rfl) rfl hres

set_option maxHeartbeats 1000000 in
/-- of a nil engine: nothing -/
theorem eresult_nil (w : World) : Calls Try.prog 35 #[.pointer none] w fun r w' => r = .returned (resV (.slice none 0 0) (.slice none 0 0) (.slice none 0 0) 0) ∧ Below w.heap.size w w' := by
  have c0 : (w.alloc (.cells #[.slice none 0 0, .slice none 0 0, .slice none 0 0, .int .i64 0] 51)).cell? ⟨w.heap.size, 0, none⟩ = some (.slice none 0 0) := by go_simp
  have c1 : (w.alloc (.cells #[.slice none 0 0, .slice none 0 0, .slice none 0 0, .int .i64 0] 51)).cell? ⟨w.heap.size, 1, none⟩ = some (.slice none 0 0) := by go_simp
  have c2 : (w.alloc (.cells #[.slice none 0 0, .slice none 0 0, .slice none 0 0, .int .i64 0] 51)).cell? ⟨w.heap.size, 2, none⟩ = some (.slice none 0 0) := by go_simp
  have c3 : (w.alloc (.cells #[.slice none 0 0, .slice none 0 0, .slice none 0 0, .int .i64 0] 51)).cell? ⟨w.heap.size, 3, none⟩ = some (.int .i64 0) := by go_simp
  have Hc := Lib.hid (And.intro c0 (And.intro c1 (And.intro c2 c3)))
  clear c0 c1 c2 c3
  go_enter Try.func35, Try.ntmps35
  go_wp2
  obtain ⟨c0, c1, c2, c3⟩ := Hc.out
  exact bodyPost_ret (eres_ret _ _ _ _ _ _ c0 c1 c2 c3 _ rfl) rfl ⟨rfl, (Below.refl _ _).alloc (Nat.le_refl _) _⟩
end Go.Proofs.Ytpbbdnicafifpaa
