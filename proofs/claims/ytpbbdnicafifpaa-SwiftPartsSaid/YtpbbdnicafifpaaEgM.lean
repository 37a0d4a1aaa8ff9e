/-
  Plain facts on an engine and a run: what it has come to; what comes at one time, in whatever order.
  Conditions: none beyond each theorem's own.
-/
import Derived.Test.YtpbbdnicafifpaaEg1
namespace Go.Proofs.Ytpbbdnicafifpaa
open Go.RowKit
set_option linter.unusedVariables false

/-- who looks at which place: all of the engine's own that do -/
structure EyesOk (c : EC) (mine : Nat → Bool) : Prop where
  len : c.es.length = c.n.places.length
  all : ∀ (p : Nat) v es, c.es[p]? = some (v, es) → (∀ j ∈ es, (0 ≤ j ∧ j < (c.n.trans.length : Int)) ∧ mine j.toNat = true) ∧ ∀ i x, c.n.trans[i]? = some x → mine i = true → looks x (p : Int) → (i : Int) ∈ es

/-- an engine has come to what a run has -/
structure EgSt (c : EC) (mine : Nat → Bool) (e : Eg) (s : St) : Prop where
  heap : IsHeap e.due
  perm : e.due.Perm (s.q.map evK)
  m : e.m = s.m
  log : e.log = s.log
  way : e.way = wayL c.n.places.length s.q
  rq : RQ c.n.trans e.rdy e.qd
  cov : Cov c.n.trans mine e.m e.qd

theorem totE_perm {q r : List Ev} (h : q.Perm r) : totE q = totE r := by
  induction h with
  | nil => rfl
  | cons x _ ih => have e1 : ∀ l : List Ev, totE (x :: l) = x.n + totE l := fun _ => rfl; rw [e1, e1, ih]
  | swap x y l => have e1 : ∀ (x : Ev) (l : List Ev), totE (x :: l) = x.n + totE l := fun _ _ => rfl; rw [e1, e1, e1, e1]; omega
  | trans _ _ h1 h2 => exact h1.trans h2

/-- part of what was under way has come -/
structure Half (t : Int) (s : St) (dn qr : List Ev) : Prop where
  perm : s.q.Perm (dn ++ qr)
  come : ∀ x ∈ dn, x.time ≤ t
theorem Half.start (t : Int) (s : St) : Half t s [] s.q := ⟨List.Perm.refl _, fun x hx => by cases hx⟩
theorem Half.step {t : Int} {s : St} {dn qr qr' : List Ev} {x : Ev} (h : Half t s dn qr) (hq : qr.Perm (x :: qr')) (hx : x.time ≤ t) : Half t s (dn ++ [x]) qr' := by
  refine ⟨h.perm.trans ?_, fun y hy => ?_⟩
  · rw [List.append_assoc]
    exact List.Perm.append_left dn (by simpa using hq)
  · rcases List.mem_append.1 hy with hy | hy
    · exact h.come y hy
    · rw [List.mem_singleton] at hy; subst hy; exact hx
theorem Half.done {t : Int} {s : St} {dn qr : List Ev} (h : Half t s dn qr) (hq : ∀ x ∈ qr, t < x.time) : arrM t s.q s.m = dn.foldl addE s.m ∧ (s.q.filter (late t)).Perm qr := by
  have e1 : dn.filter (due t) = dn := by
    rw [List.filter_eq_self]; intro x hx; have := h.come x hx; unfold due; simp [this]
  have e2 : qr.filter (due t) = [] := by
    rw [List.filter_eq_nil_iff]; intro x hx; have := hq x hx; unfold due; simp; omega
  have e3 : dn.filter (late t) = [] := by
    rw [List.filter_eq_nil_iff]; intro x hx; have := h.come x hx; unfold late; simp; omega
  have e4 : qr.filter (late t) = qr := by
    rw [List.filter_eq_self]; intro x hx; have := hq x hx; unfold late; simp [this]
  have p1 := h.perm.filter (due t)
  have p2 := h.perm.filter (late t)
  rw [List.filter_append, e1, e2, List.append_nil] at p1
  rw [List.filter_append, e3, e4, List.nil_append] at p2
  exact ⟨foldE_perm p1 s.m, p2⟩
/-- the next one that comes: it fits -/
theorem Half.next {n : Nt} {t t0 : Int} {s : St} {dn qr qr' : List Ev} {x : Ev} (h : Half t s dn qr) (hI : Inv n t0 s) (hq : qr.Perm (x :: qr')) :
    ∃ p : Nat, x.place = p ∧ p < n.places.length ∧ 1 ≤ x.n ∧ (∃ z, (dn.foldl addE s.m)[p]? = some z ∧ 0 ≤ z ∧ z + x.n ≤ 1099511627776 ∧ (dn ++ [x]).foldl addE s.m = (dn.foldl addE s.m).set p (z + x.n)) ∧
      ∃ y, (wayL n.places.length qr)[p]? = some y ∧ 0 ≤ y ∧ y ≤ 1099511627776 ∧ x.n ≤ 1099511627776 ∧ wayL n.places.length qr' = (wayL n.places.length qr).set p (y - x.n) := by
  have hxm : x ∈ s.q := h.perm.symm.subset (List.mem_append_right _ (hq.symm.subset (by simp)))
  have hok := hI.evs x hxm
  have hall : ∀ y ∈ dn ++ qr, EvOk n.places.length y := fun y hy => hI.evs y (h.perm.symm.subset hy)
  have hd1 : ∀ y ∈ dn, EvOk s.m.length y := fun y hy => by rw [hI.len]; exact hall y (List.mem_append_left _ hy)
  have hq1 : ∀ y ∈ qr, EvOk (List.replicate n.places.length (0 : Int)).length y := fun y hy => by rw [List.length_replicate]; exact hall y (List.mem_append_right _ hy)
  have hrep : ∀ P : Nat, Pos (List.replicate P (0 : Int)) ∧ tot (List.replicate P (0 : Int)) = 0 := by
    intro P
    refine ⟨fun z hz => by rw [List.eq_of_mem_replicate hz]; exact Int.le_refl _, ?_⟩
    induction P with
    | zero => rfl
    | succ P ih => rw [List.replicate_succ, tot, ih]; rfl
  have hl : (dn.foldl addE s.m).length = s.m.length := foldE_len _ _
  have hl2 := wayL_size n.places.length qr
  have hpl : x.place.toNat < n.places.length := by have := hok.1; omega
  have hz := getI_some (m := dn.foldl addE s.m) (x := x.place) hok.1.1 (by rw [hl, hI.len]; exact hok.1.2)
  have hy := getI_some (m := wayL n.places.length qr) (x := x.place) hok.1.1 (by rw [hl2]; exact hok.1.2)
  have hpos : Pos (dn.foldl addE s.m) := foldE_pos _ _ hI.pos hd1
  have hpos2 : Pos (wayL n.places.length qr) := foldE_pos _ _ (hrep _).1 hq1
  have s1 := le_tot _ _ _ hpos hz
  have s2 : tot (dn.foldl addE s.m) = tot s.m + totE dn := foldE_tot _ _ hd1
  have s3 := le_tot _ _ _ hpos2 hy
  have s4 : tot (wayL n.places.length qr) = tot (List.replicate n.places.length (0 : Int)) + totE qr := foldE_tot _ _ hq1
  rw [(hrep _).2] at s4
  have s5 : totE s.q = totE dn + totE qr := by rw [totE_perm h.perm, totE_append]
  have s6 : totE qr = x.n + totE qr' := totE_perm hq
  have s7 : 0 ≤ totE dn := totE_pos (P := n.places.length) _ (fun y hy => hall y (List.mem_append_left _ hy))
  have s8 : 0 ≤ totE qr' := totE_pos (P := n.places.length) _ (fun y hy => hall y (List.mem_append_right _ (hq.symm.subset (List.mem_cons_of_mem _ hy))))
  have s9 := hI.sum
  have s10 := hI.ll
  have s11 := tot_pos _ hI.pos
  have s12 := hok.2
  refine ⟨x.place.toNat, by have := hok.1; omega, hpl, hok.2, ⟨_, hz, hpos.at_ hz, by omega, ?_⟩, _, hy, hpos2.at_ hy, by omega, by omega, ?_⟩
  · rw [List.foldl_append]; rfl
  · exact (wayL_take_off hq (by have := hok.1; omega) hpl hy).symm

theorem evK_time (x : Ev) : (evK x).1 = x.time := rfl
/-- the first of a heap comes first -/
theorem top_first {D : List Key4} {qr : List Ev} (hh : IsHeap D) (hp : D.Perm (qr.map evK)) (h0 : 0 < D.length) : ∃ x qr', at4 D 0 = evK x ∧ qr.Perm (x :: qr') ∧ ∀ y ∈ qr, x.time ≤ y.time := by
  have hm := hp.subset (at4_mem h0)
  rw [List.mem_map] at hm
  obtain ⟨x, hx, he⟩ := hm
  obtain ⟨a, b, rfl⟩ := List.append_of_mem hx
  refine ⟨x, a ++ b, he.symm, List.perm_middle, fun y hy => ?_⟩
  have hyD : evK y ∈ D := hp.symm.subset (List.mem_map.2 ⟨y, hy, rfl⟩)
  obtain ⟨k, hk, hke⟩ := List.mem_iff_getElem.1 hyD
  have h1 := hh.first k hk
  have e : at4 D k = evK y := by simp [at4, List.getD, hk, hke]
  rw [e, ← he] at h1
  by_cases hlt : y.time < x.time
  · have : klt (evK y) (evK x) = true := by rw [klt_iff]; exact .inl hlt
    rw [this] at h1; cases h1
  · omega
theorem perm_rest {D D' : List Key4} {qr qr' : List Ev} {x : Ev} (hp : D.Perm (qr.map evK)) (hq : qr.Perm (x :: qr')) (hd : (evK x :: D').Perm D) : D'.Perm (qr'.map evK) := by
  have h1 : (evK x :: D').Perm (evK x :: qr'.map evK) := hd.trans (hp.trans (hq.map evK))
  exact h1.cons_inv
end Go.Proofs.Ytpbbdnicafifpaa
