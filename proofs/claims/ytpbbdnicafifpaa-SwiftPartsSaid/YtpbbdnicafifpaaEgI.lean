/-
  What give comes to as one step of a firing: what is told, what is there at once, what is under way.
  Conditions: none beyond each theorem's own.
-/
import Derived.Test.YtpbbdnicafifpaaEgH
namespace Go.Proofs.Ytpbbdnicafifpaa
open Go.RowKit
set_option linter.unusedVariables false

/-- which places belong to another engine -/
def awB (c : EC) (p : Int) : Bool := c.aw.getD p.toNat false
def homeL (c : EC) (l : List (Int × Int)) : List (Int × Int) := l.filter (fun a => !awB c a.1)
def awayL (c : EC) (l : List (Int × Int)) : List (Int × Int) := l.filter (fun a => awB c a.1)
/-- behind so much of what a firing gives -/
def stK (t d : Int) (lg : List (Int × Int)) (m : List Int) (q : List Ev) (lo : List (Int × Int)) : St := if d = 0 then ⟨lg, (outs t 0 lo).foldl addE m, q⟩ else ⟨lg, m, q ++ outs t d lo⟩

theorem filter_at {α : Type} {f : α → Bool} {l : List α} {k : Nat} {a : α} (h : l[k]? = some a) (hf : f a = true) : (l.filter f)[((l.take k).filter f).length]? = some a ∧ (l.filter f).take ((l.take k).filter f).length = (l.take k).filter f ∧ (l.take (k + 1)).filter f = (l.take k).filter f ++ [a] := by
  have e1 : l = l.take k ++ a :: l.drop (k + 1) := by rw [← drop_at h, List.take_append_drop]
  have e2 : l.filter f = (l.take k).filter f ++ a :: (l.drop (k + 1)).filter f := by
    conv => lhs; rw [e1]
    rw [List.filter_append, List.filter_cons_of_pos hf]
  refine ⟨?_, ?_, ?_⟩
  · rw [e2, List.getElem?_append_right (Nat.le_refl _)]; simp
  · rw [e2, List.take_append_of_le_length (Nat.le_refl _), List.take_length]
  · rw [take_at h, List.filter_append, List.filter_cons_of_pos hf]; rfl
theorem filter_off {α : Type} {f : α → Bool} {l : List α} {k : Nat} {a : α} (h : l[k]? = some a) (hf : f a = false) : (l.take (k + 1)).filter f = (l.take k).filter f := by
  rw [take_at h, List.filter_append, List.filter_cons_of_neg (by simp [hf])]; simp

theorem takeL_len (li : List (Int × Int)) (m : List Int) : (takeL li m).length = m.length := by
  rw [← takeTo_all (k := li.length) (Nat.le_refl _)]; exact takeTo_len _ _ _
theorem outs_snoc1 (t d : Int) (l : List (Int × Int)) (a : Int × Int) : outs t d (l ++ [a]) = outs t d l ++ [⟨t + d, a.1, a.2⟩] := by
  unfold outs; rw [List.map_append]; rfl

theorem egive_any {w0 w : World} {c : EC} {e : Eg} {s : St} {mine : Nat → Bool} {n' : Nt} {x x' : Tr} {lg : List (Int × Int)} {k : Nat} {a : Int × Int} (hc : EOk c) (hE : EyesOk c mine) (haw : c.aw.length = c.n.places.length) (h : EgAt w0 w c e) (hn' : NOk n') (hI : Inv n' e.t s) (hP : n'.places.length = c.n.places.length) (hx' : x' ∈ n'.trans)
    (hmay : mayB s.m x'.inn x'.nt = true) (hout : x'.out = homeL c x.out) (hdel : x'.delay = x.delay) (hk : x.out[k]? = some a) (ha : (0 ≤ a.1 ∧ a.1 < (c.n.places.length : Int))) (hS : EgSt c mine e (stK e.t x.delay lg (takeL x'.inn s.m) s.q (homeL c (x.out.take k)))) (hto : e.told.length ≤ 1000000) :
    Calls Try.prog 89 #[.pointer (some ⟨c.b, 0, none⟩), .agg #[.int .i64 (e.t + x.delay), .int .i64 a.1, .int .i64 a.2]] w fun r w' => r = .returned (.bool true) ∧ ∃ e', EgAt w0 w' c e' ∧ EgSt c mine e' (stK e.t x.delay lg (takeL x'.inn s.m) s.q (homeL c (x.out.take (k + 1)))) ∧ e'.t = e.t ∧ e'.told = e.told ++ outs e.t x.delay (awayL c [a]) := by
  have hd := hn'.dly x' hx'
  rw [hdel] at hd
  obtain ⟨a1, a2⟩ := a
  simp only at ha ⊢
  obtain ⟨p, rfl⟩ : ∃ p : Nat, a1 = p := ⟨a1.toNat, by omega⟩
  have hpl : p < c.n.places.length := by omega
  obtain ⟨y, hy⟩ := at_lt (l := c.aw) (k := p) (by omega)
  have hyb : awB c (p : Int) = y := by unfold awB; rw [Int.toNat_natCast]; simp [List.getD, hy]
  have hml : s.m.length = c.n.places.length := by rw [hI.len, hP]
  cases y with
  | true =>
    refine (give_away hc h hy hto).mono ?_
    rintro r w' ⟨rfl, h1⟩
    refine ⟨rfl, _, h1, ?_, rfl, ?_⟩
    · have e1 : homeL c (x.out.take (k + 1)) = homeL c (x.out.take k) := filter_off hk (by simp [hyb])
      rw [e1]
      exact ⟨hS.heap, hS.perm, hS.m, hS.log, hS.way, hS.rq, hS.cov⟩
    · have e1 : awayL c [((p : Int), a2)] = [((p : Int), a2)] := by simp [awayL, hyb]
      rw [e1]; rfl
  | false =>
    obtain ⟨f1, f2, f3⟩ := filter_at (f := fun b : Int × Int => !awB c b.1) hk (by simp [hyb])
    have f1' : x'.out[(homeL c (x.out.take k)).length]? = some ((p : Int), a2) := by rw [hout]; exact f1
    have f2' : x'.out.take (homeL c (x.out.take k)).length = homeL c (x.out.take k) := by rw [hout]; exact f2
    have f3' : homeL c (x.out.take (k + 1)) = homeL c (x.out.take k) ++ [((p : Int), a2)] := f3
    have f4 := take_at f1'
    rw [f2'] at f4
    have e0 : awayL c [((p : Int), a2)] = [] := by simp [awayL, hyb]
    rw [f3', e0]
    by_cases h0 : x.delay = 0
    · obtain ⟨p', hp', hp2, z, hz, hz0, hn1, hzn, hset⟩ := now_next hn' hI hx' hmay f1'
      simp only at hp' hn1 hzn
      have : p' = p := by omega
      subst this
      unfold nowTo at hz hset
      rw [f2'] at hz hset
      rw [f4] at hset
      unfold stK at hS ⊢
      rw [if_pos h0] at hS ⊢
      obtain ⟨⟨v, es⟩, hes⟩ := at_lt (l := c.es) (k := p') (by rw [hE.len]; exact hpl)
      have hm := hS.m
      simp only at hm
      refine (give_now (t := e.t + x.delay) (z := z) hc h hy (by omega) hes (fun j hj => ((hE.all p' v es hes).1 j hj).1) hS.rq (by rw [hm, foldE_len, takeL_len, hml]) (by rw [hm]; exact hz) hz0 hn1 hzn).mono ?_
      rintro r w' ⟨rfl, R, hR, h1⟩
      refine ⟨rfl, _, h1, ⟨hS.heap, hS.perm, ?_, hS.log, hS.way, hR, cov_put hc.nok hE hes hS.cov hS.rq.len⟩, rfl, by simp [outs]⟩
      show e.m.set p' (z + a2) = _
      rw [hm]; exact hset.symm
    · obtain ⟨p', hp', hp2, z, hz, hz0, hn1, hzn, hset⟩ := way_more hn' hI hx' f1'
      simp only at hp' hn1 hzn
      have : p' = p := by omega
      subst this
      rw [f2'] at hz hset
      rw [f4, hdel, hml] at hset
      rw [hdel, hml] at hz
      unfold stK at hS ⊢
      rw [if_neg h0] at hS ⊢
      have hm := hS.m
      have hw := hS.way
      simp only at hm hw
      have hql := hI.ql
      have hll := hI.ll
      have hlo : (homeL c (x.out.take k)).length ≤ 8 := by
        have h3 := (hn'.len x' hx').2.2
        have h4 : (x'.out.take (homeL c (x.out.take k)).length).length ≤ x'.out.length := List.length_take_le' _ _
        rw [f2'] at h4
        omega
      have hpl2 := hS.perm.length_eq
      simp only [List.length_map, List.length_append] at hpl2
      have hol : (outs e.t x.delay (homeL c (x.out.take k))).length = (homeL c (x.out.take k)).length := by unfold outs; simp
      refine (give_later (t := e.t + x.delay) (z := z) hc h hy (by omega) hS.heap (by omega) (by rw [hw]; exact wayL_size _ _) (by rw [hw]; exact hz) hz0 hn1 hzn).mono ?_
      rintro r w' ⟨rfl, D, hD1, hD2, h1⟩
      refine ⟨rfl, _, h1, ⟨hD2, ?_, hm, hS.log, ?_, hS.rq, hS.cov⟩, rfl, by simp [outs]⟩
      · refine hD1.trans ?_
        refine (List.Perm.cons _ hS.perm).trans ?_
        simp only
        rw [outs_snoc1, ← List.append_assoc, List.map_append (l₂ := [_])]
        exact List.perm_append_comm (l₁ := [_])
      · show e.way.set p' (z + a2) = _
        rw [hw]; exact hset.symm
end Go.Proofs.Ytpbbdnicafifpaa
