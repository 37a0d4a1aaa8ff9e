/-
  Plain facts on one firing: without a delay what it gives is there at once; with one it is under way. What comes at one time.
  Conditions: none beyond each theorem's own.
-/
import Derived.Test.YtpbbdnicafifpaaSwMath
namespace Go.Proofs.Ytpbbdnicafifpaa
open Go.RowKit
set_option linter.unusedVariables false

theorem after_due {t : Int} {s : St} (h : After t s) : s.q.filter (due t) = [] := by
  rw [List.filter_eq_nil_iff]
  intro e he
  have := h e he
  unfold due
  simp
  omega
theorem after_late {t : Int} {s : St} (h : After t s) : s.q.filter (late t) = s.q := by
  rw [List.filter_eq_self]
  intro e he
  have := h e he
  unfold late
  simp
  omega
theorem outs_due {t : Int} (l : List (Int × Int)) : (outs t 0 l).filter (due t) = outs t 0 l := by
  rw [List.filter_eq_self]
  intro e he
  obtain ⟨a, _, rfl⟩ := outs_mem he
  unfold due
  simp
theorem outs_late0 {t : Int} (l : List (Int × Int)) : (outs t 0 l).filter (late t) = [] := by
  rw [List.filter_eq_nil_iff]
  intro e he
  obtain ⟨a, _, rfl⟩ := outs_mem he
  unfold late
  simp
theorem outs_late {t d : Int} (hd : 0 < d) (l : List (Int × Int)) : (outs t d l).filter (late t) = outs t d l := by
  rw [List.filter_eq_self]
  intro e he
  obtain ⟨a, _, rfl⟩ := outs_mem he
  unfold late
  simp
  omega
theorem outs_due0 {t d : Int} (hd : 0 < d) (l : List (Int × Int)) : (outs t d l).filter (due t) = [] := by
  rw [List.filter_eq_nil_iff]
  intro e he
  obtain ⟨a, _, rfl⟩ := outs_mem he
  unfold due
  simp
  omega
/-- without a delay -/
theorem fire_now {t : Int} {i : Nat} {x : Tr} {s : St} (h : After t s) (hd : x.delay = 0) : fire t i x s = ⟨s.log ++ [(t, (i : Int))], (outs t 0 x.out).foldl addE (takeL x.inn s.m), s.q⟩ := by
  unfold fire fired arrive arrM
  simp only
  rw [hd, List.filter_append, List.filter_append, after_due h, outs_due, outs_late0, after_late h, List.nil_append, List.append_nil]
/-- with one -/
theorem fire_later {t : Int} {i : Nat} {x : Tr} {s : St} (h : After t s) (hd : 0 < x.delay) : fire t i x s = ⟨s.log ++ [(t, (i : Int))], takeL x.inn s.m, s.q ++ outs t x.delay x.out⟩ := by
  unfold fire fired arrive arrM
  simp only
  rw [List.filter_append, List.filter_append, after_due h, outs_due0 hd, outs_late hd, after_late h, List.nil_append]
  rfl
theorem outs_snoc (t d : Int) {l : List (Int × Int)} {k : Nat} {a : Int × Int} (h : l[k]? = some a) : outs t d (l.take (k + 1)) = outs t d (l.take k) ++ [⟨t + d, a.1, a.2⟩] := by
  unfold outs; rw [take_at h, List.map_append]; rfl
/-- the tokens behind the first k of what is given at once -/
def nowTo (t : Int) (l : List (Int × Int)) (m : List Int) (k : Nat) : List Int := (outs t 0 (l.take k)).foldl addE m
theorem nowTo_succ {t : Int} {l : List (Int × Int)} {m : List Int} {k : Nat} {a : Int × Int} (h : l[k]? = some a) : nowTo t l m (k + 1) = addE (nowTo t l m k) ⟨t + 0, a.1, a.2⟩ := by
  unfold nowTo; rw [outs_snoc t 0 h, List.foldl_append]; rfl
theorem nowTo_len (t : Int) (l : List (Int × Int)) (m : List Int) (k : Nat) : (nowTo t l m k).length = m.length := foldE_len _ _

/-- what is given at once, one by one: it fits -/
theorem now_next {n : Nt} (hn : NOk n) {t : Int} {s : St} (hI : Inv n t s) {x : Tr} (hx : x ∈ n.trans) (hm : mayB s.m x.inn x.nt = true) {k : Nat} {a : Int × Int} (hk : x.out[k]? = some a) :
    ∃ p : Nat, a.1 = p ∧ p < s.m.length ∧ ∃ z, (nowTo t x.out (takeL x.inn s.m) k)[p]? = some z ∧ 0 ≤ z ∧ 1 ≤ a.2 ∧ z + a.2 ≤ 1099511627776 ∧ nowTo t x.out (takeL x.inn s.m) (k + 1) = (nowTo t x.out (takeL x.inn s.m) k).set p (z + a.2) := by
  have hs := hI.sum
  have htE : 0 ≤ totE s.q := totE_pos _ hI.evs
  have hll := hI.ll
  obtain ⟨t1, t2, t3⟩ := take_ok x.inn s.m hI.pos (by omega) (fun b hb => by rw [hI.len]; exact ⟨(hn.inn x hx b hb).1, (hn.inn x hx b hb).2.1⟩) (may_in hm) (hn.dist x hx)
  have ha := hn.out x hx a (List.mem_of_getElem? hk)
  have hok : ∀ e ∈ outs t 0 (x.out.take k), EvOk (takeL x.inn s.m).length e := fun e he => by
    obtain ⟨b, hb, rfl⟩ := outs_mem he
    have hb2 := hn.out x hx b (List.mem_of_mem_take hb)
    rw [t1, hI.len]
    exact ⟨hb2.1, hb2.2.1⟩
  have hl : (nowTo t x.out (takeL x.inn s.m) k).length = s.m.length := by rw [nowTo_len, t1]
  have hpl : a.1.toNat < s.m.length := by rw [hI.len]; omega
  have hz := getI_some (m := nowTo t x.out (takeL x.inn s.m) k) (x := a.1) ha.1.1 (by rw [hl, hI.len]; exact ha.1.2)
  have hpos : Pos (nowTo t x.out (takeL x.inn s.m) k) := foldE_pos _ _ t2 hok
  refine ⟨a.1.toNat, by omega, hpl, _, hz, hpos.at_ hz, ha.2.1, ?_, ?_⟩
  · have h1 := le_tot _ _ _ hpos hz
    have h2 : tot (nowTo t x.out (takeL x.inn s.m) k) = tot (takeL x.inn s.m) + totE (outs t 0 (x.out.take k)) := foldE_tot _ _ hok
    have h3 := outs_tot t 0 (x.out.take k) (fun b hb => (hn.out x hx b (List.mem_of_mem_take hb)).2.2)
    have h4 := (hn.len x hx).2.2
    have h5 : (x.out.take k).length ≤ x.out.length := List.length_take_le' _ _
    omega
  · rw [nowTo_succ hk]; rfl

/-- what is under way, with more of it: the next one fits -/
theorem way_more {n : Nt} (hn : NOk n) {t : Int} {s : St} (hI : Inv n t s) {x : Tr} (hx : x ∈ n.trans) {k : Nat} {a : Int × Int} (hk : x.out[k]? = some a) :
    ∃ p : Nat, a.1 = p ∧ p < s.m.length ∧ ∃ z, (wayL s.m.length (s.q ++ outs t x.delay (x.out.take k)))[p]? = some z ∧ 0 ≤ z ∧ 1 ≤ a.2 ∧ z + a.2 ≤ 1099511627776 ∧ wayL s.m.length (s.q ++ outs t x.delay (x.out.take (k + 1))) = (wayL s.m.length (s.q ++ outs t x.delay (x.out.take k))).set p (z + a.2) := by
  have ha := hn.out x hx a (List.mem_of_getElem? hk)
  have hok : ∀ e ∈ s.q ++ outs t x.delay (x.out.take k), EvOk (List.replicate s.m.length (0 : Int)).length e := fun e he => by
    rw [List.length_replicate, hI.len]
    rcases List.mem_append.1 he with he | he
    · exact hI.evs e he
    · obtain ⟨b, hb, rfl⟩ := outs_mem he
      have hb2 := hn.out x hx b (List.mem_of_mem_take hb)
      exact ⟨hb2.1, hb2.2.1⟩
  have hl := wayL_size s.m.length (s.q ++ outs t x.delay (x.out.take k))
  have hpl : a.1.toNat < s.m.length := by rw [hI.len]; omega
  have hz := getI_some (m := wayL s.m.length (s.q ++ outs t x.delay (x.out.take k))) (x := a.1) ha.1.1 (by rw [hl, hI.len]; exact ha.1.2)
  have hrep : ∀ P : Nat, Pos (List.replicate P (0 : Int)) ∧ tot (List.replicate P (0 : Int)) = 0 := by
    intro P
    refine ⟨fun z hz => by rw [List.eq_of_mem_replicate hz]; exact Int.le_refl _, ?_⟩
    induction P with
    | zero => rfl
    | succ P ih => rw [List.replicate_succ, tot, ih]; rfl
  have hpos : Pos (wayL s.m.length (s.q ++ outs t x.delay (x.out.take k))) := foldE_pos _ _ (hrep _).1 hok
  refine ⟨a.1.toNat, by omega, hpl, _, hz, hpos.at_ hz, ha.2.1, ?_, ?_⟩
  · have h1 := le_tot _ _ _ hpos hz
    have h2 : tot (wayL s.m.length (s.q ++ outs t x.delay (x.out.take k))) = tot (List.replicate s.m.length (0 : Int)) + totE (s.q ++ outs t x.delay (x.out.take k)) := foldE_tot _ _ hok
    rw [(hrep _).2, totE_append] at h2
    have h3 := outs_tot t x.delay (x.out.take k) (fun b hb => (hn.out x hx b (List.mem_of_mem_take hb)).2.2)
    have h4 := (hn.len x hx).2.2
    have h5 : (x.out.take k).length ≤ x.out.length := List.length_take_le' _ _
    have h6 := hI.sum
    have h7 := tot_pos _ hI.pos
    have h8 := hI.ll
    omega
  · rw [outs_snoc t x.delay hk, ← List.append_assoc, wayL_snoc]; rfl

/-! what comes at one time, one by one, and what is left -/
/-- under way when k of those that were have been looked at -/
def leftTo (t : Int) (q : List Ev) (k : Nat) : List Ev := (q.take k).filter (late t) ++ q.drop k
theorem leftTo_zero (t : Int) (q : List Ev) : leftTo t q 0 = q := by simp [leftTo]
theorem leftTo_end (t : Int) (q : List Ev) : leftTo t q q.length = q.filter (late t) := by simp [leftTo]
theorem leftTo_stay {t : Int} {q : List Ev} {k : Nat} {e : Ev} (hk : q[k]? = some e) (hl : late t e = true) : leftTo t q (k + 1) = leftTo t q k := by
  unfold leftTo; rw [late_next hk hl, drop_at hk]; simp
theorem leftTo_go {t : Int} {q : List Ev} {k : Nat} {e : Ev} (hk : q[k]? = some e) (hl : late t e = false) : (leftTo t q k).Perm (e :: leftTo t q (k + 1)) := by
  unfold leftTo; rw [late_skip hk hl, drop_at hk]; exact List.perm_middle
theorem left_next {n : Nt} {t : Int} {s : St} (hI : Inv n t s) {k : Nat} {e : Ev} (hk : s.q[k]? = some e) (hl : late t e = false) :
    ∃ p : Nat, e.place = p ∧ p < s.m.length ∧ ∃ z, (wayL s.m.length (leftTo t s.q k))[p]? = some z ∧ 0 ≤ z ∧ z ≤ 1099511627776 ∧ 1 ≤ e.n ∧ e.n ≤ z ∧ wayL s.m.length (leftTo t s.q (k + 1)) = (wayL s.m.length (leftTo t s.q k)).set p (z - e.n) := by
  have hok := hI.evs e (List.mem_of_getElem? hk)
  have hperm := leftTo_go hk hl
  have hsub : ∀ x ∈ leftTo t s.q k, EvOk s.m.length x := fun x hx => by
    rw [hI.len]
    unfold leftTo at hx
    rcases List.mem_append.1 hx with hx | hx
    · exact hI.evs x (List.mem_of_mem_take (List.mem_filter.1 hx).1)
    · exact hI.evs x (List.mem_of_mem_drop hx)
  have hl2 := wayL_size s.m.length (leftTo t s.q k)
  have hp1 : e.place.toNat < s.m.length := by rw [hI.len]; have := hok.1; omega
  have hz := getI_some (m := wayL s.m.length (leftTo t s.q k)) (x := e.place) hok.1.1 (by rw [hl2, hI.len]; exact hok.1.2)
  have hrep : ∀ P : Nat, Pos (List.replicate P (0 : Int)) ∧ tot (List.replicate P (0 : Int)) = 0 := by
    intro P
    refine ⟨fun z hz => by rw [List.eq_of_mem_replicate hz]; exact Int.le_refl _, ?_⟩
    induction P with
    | zero => rfl
    | succ P ih => rw [List.replicate_succ, tot, ih]; rfl
  have hpos : Pos (wayL s.m.length (leftTo t s.q k)) := foldE_pos _ _ (hrep _).1 (fun x hx => by rw [List.length_replicate]; exact hsub x hx)
  have hset := wayL_take_off (P := s.m.length) (p := e.place.toNat) hperm (by have := hok.1; omega) hp1 hz
  refine ⟨e.place.toNat, by have := hok.1; omega, hp1, _, hz, hpos.at_ hz, ?_, hok.2, ?_, hset.symm⟩
  · have h1 := le_tot _ _ _ hpos hz
    have h2 : tot (wayL s.m.length (leftTo t s.q k)) = tot (List.replicate s.m.length (0 : Int)) + totE (leftTo t s.q k) := foldE_tot _ _ (fun x hx => by rw [List.length_replicate]; exact hsub x hx)
    rw [(hrep _).2] at h2
    have h3 : totE (leftTo t s.q k) ≤ totE s.q := by
      unfold leftTo
      rw [totE_append]
      have e1 : totE s.q = totE (s.q.take k) + totE (s.q.drop k) := by rw [← totE_append, List.take_append_drop]
      have e2 := totE_split t (s.q.take k)
      have e3 : 0 ≤ totE ((s.q.take k).filter (due t)) := totE_pos (P := n.places.length) _ (fun x hx => hI.evs x (List.mem_of_mem_take (List.mem_filter.1 hx).1))
      omega
    have h7 := hI.sum
    have h8 := hI.ll
    have h9 := tot_pos _ hI.pos
    omega
  · have hpos2 : Pos (wayL s.m.length (leftTo t s.q (k + 1))) := foldE_pos _ _ (hrep _).1 (fun x hx => by rw [List.length_replicate]; exact hsub x (hperm.symm.subset (List.mem_cons_of_mem _ hx)))
    have hz2 : (wayL s.m.length (leftTo t s.q (k + 1)))[e.place.toNat]? = some (getI (wayL s.m.length (leftTo t s.q k)) e.place - e.n) := by
      rw [← hset, List.getElem?_set_self (by rw [hl2]; exact hp1)]
    have := hpos2.at_ hz2
    omega
theorem late_ne {t : Int} {e : Ev} (h : t ≤ e.time) : late t e = decide (e.time ≠ t) := by
  unfold late
  by_cases h1 : e.time = t
  · rw [decide_eq_false (by omega), decide_eq_false (by simp [h1])]
  · rw [decide_eq_true (by omega), decide_eq_true h1]
theorem arrM_all (t : Int) (q : List Ev) (m : List Int) : arrM t (q.take q.length) m = arrM t q m := by rw [List.take_length]
/-- no place has too many tokens -/
theorem few_tokens {n : Nt} {t : Int} {s : St} (hI : Inv n t s) {k : Nat} {z : Int} (hk : s.m[k]? = some z) : 0 ≤ z ∧ z ≤ 1099511627776 := by
  have h1 := le_tot _ _ _ hI.pos hk
  have h2 := totE_pos _ hI.evs
  have h3 := hI.sum
  have h4 := hI.ll
  exact ⟨hI.pos.at_ hk, by omega⟩
end Go.Proofs.Ytpbbdnicafifpaa
