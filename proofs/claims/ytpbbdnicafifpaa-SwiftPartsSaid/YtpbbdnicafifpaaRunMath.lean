/-
  Runs as plain data: tokens under way, firings, one time and then the next; what stays true all along.
  Conditions: none beyond each theorem's own.
-/
import Derived.Test.YtpbbdnicafifpaaMarkI
import Derived.Test.YtpbbdnicafifpaaMarkABC
import Derived.IntWalk
namespace Go.Proofs.Ytpbbdnicafifpaa
open Go.RowKit
set_option linter.unusedVariables false

/-- tokens under way: when, where, how many -/
structure Ev where
  time : Int
  place : Int
  n : Int

/-- a run as far as it has come: what fired, what is there, what is under way -/
structure St where
  log : List (Int × Int)
  m : List Int
  q : List Ev

def addE (m : List Int) (e : Ev) : List Int := m.set e.place.toNat (getI m e.place + e.n)
def due (t : Int) (e : Ev) : Bool := decide (e.time ≤ t)
def late (t : Int) (e : Ev) : Bool := decide (t < e.time)
def arrM (t : Int) (q : List Ev) (m : List Int) : List Int := (q.filter (due t)).foldl addE m
def arrive (t : Int) (s : St) : St := ⟨s.log, arrM t s.q s.m, s.q.filter (late t)⟩
def outs (t d : Int) (l : List (Int × Int)) : List Ev := l.map fun a => ⟨t + d, a.1, a.2⟩
/-- a transition has fired: what it gives is under way -/
def fired (t : Int) (i : Nat) (x : Tr) (s : St) : St := ⟨s.log ++ [(t, (i : Int))], takeL x.inn s.m, s.q ++ outs t x.delay x.out⟩
def fire (t : Int) (i : Nat) (x : Tr) (s : St) : St := arrive t (fired t i x s)
def Tr.none : Tr := ⟨⟨#[]⟩, 0, 0, [], [], []⟩
/-- the firings at one time, k at most; the error -/
def inst (ts : List Tr) (t : Int) : Nat → List Int → St → St × Int
  | 0, _, s => (s, 0)
  | k + 1, c, s =>
    if bestTo s.m ts ts.length < 0 then (s, 0)
    else if 20 ≤ getI c (bestTo s.m ts ts.length) then (s, 4)
    else if 2000 ≤ s.log.length then (s, 5)
    else inst ts t k (c.set (bestTo s.m ts ts.length).toNat (getI c (bestTo s.m ts ts.length) + 1)) (fire t (bestTo s.m ts ts.length).toNat (ts.getD (bestTo s.m ts ts.length).toNat Tr.none) s)
def nextT (q : List Ev) : Int := q.foldl (fun z e => if z < 0 ∨ e.time < z then e.time else z) (-1)
def instAll (ts : List Tr) (t : Int) (s : St) : St × Int := inst ts t 2001 (List.replicate ts.length 0) (arrive t s)
/-- from time to time; where it ended, when, the error -/
def times (ts : List Tr) (h : Int) : Nat → Int → St → St × Int × Int
  | 0, t, s => (s, t, 0)
  | k + 1, t, s =>
    if (instAll ts t s).2 ≠ 0 then ((instAll ts t s).1, t, (instAll ts t s).2)
    else if 0 ≤ nextT (instAll ts t s).1.q ∧ nextT (instAll ts t s).1.q ≤ h then times ts h k (nextT (instAll ts t s).1.q) (instAll ts t s).1
    else ((instAll ts t s).1, t, 0)
def start (n : Nt) : St := ⟨[], n.places.map (·.tok), []⟩
def runN (n : Nt) (h : Int) : St × Int × Int := if 0 ≤ h then times n.trans h (h.toNat + 1) 0 (start n) else (start n, 0, 0)
/-- how much is under way to each place -/
def wayL (P : Nat) (q : List Ev) : List Int := q.foldl addE (List.replicate P 0)

/-! sums -/
def tot : List Int → Int
  | [] => 0
  | z :: l => z + tot l
def totE (q : List Ev) : Int := tot (q.map (·.n))
def Pos (m : List Int) : Prop := ∀ z ∈ m, 0 ≤ z

theorem tot_append (a b : List Int) : tot (a ++ b) = tot a + tot b := by
  induction a with
  | nil => simp [tot]
  | cons z a ih => rw [List.cons_append, tot, tot, ih]; omega
theorem totE_append (a b : List Ev) : totE (a ++ b) = totE a + totE b := by unfold totE; rw [List.map_append, tot_append]
theorem tot_set : ∀ (m : List Int) (p : Nat) (z y : Int), m[p]? = some z → tot (m.set p y) = tot m - z + y
  | [], p, z, y, h => by simp at h
  | a :: m, 0, z, y, h => by simp at h; subst h; rw [List.set_cons_zero, tot, tot]; omega
  | a :: m, p + 1, z, y, h => by
    rw [List.set_cons_succ, tot, tot, tot_set m p z y (by simpa using h)]; omega
theorem tot_pos : ∀ (m : List Int), Pos m → 0 ≤ tot m
  | [], _ => by simp [tot]
  | a :: m, h => by
    have h1 := h a (by simp)
    have h2 := tot_pos m (fun z hz => h z (by simp [hz]))
    rw [tot]; omega
theorem le_tot : ∀ (m : List Int) (p : Nat) (z : Int), Pos m → m[p]? = some z → z ≤ tot m
  | [], p, z, _, h => by simp at h
  | a :: m, 0, z, hp, h => by
    simp at h; subst h
    have := tot_pos m (fun z hz => hp z (by simp [hz]))
    rw [tot]; omega
  | a :: m, p + 1, z, hp, h => by
    have h1 := le_tot m p z (fun z hz => hp z (by simp [hz])) (by simpa using h)
    have h2 := hp a (by simp)
    rw [tot]; omega
theorem getI_at {m : List Int} {p : Nat} {z : Int} (h : m[p]? = some z) : getI m (p : Int) = z := by unfold getI; simp [List.getD, h]
theorem getI_some {m : List Int} {x : Int} (h0 : 0 ≤ x) (h1 : x < m.length) : m[x.toNat]? = some (getI m x) := by
  unfold getI
  have : x.toNat < m.length := by omega
  simp [List.getD, this]
theorem Pos.set {m : List Int} {p : Nat} {y : Int} (h : Pos m) (hy : 0 ≤ y) : Pos (m.set p y) := by
  intro z hz
  rcases List.mem_or_eq_of_mem_set hz with h1 | h1
  · exact h z h1
  · omega
theorem Pos.at_ {m : List Int} {p : Nat} {z : Int} (h : Pos m) (hz : m[p]? = some z) : 0 ≤ z := h z (List.mem_of_getElem? hz)

/-- an event that may be -/
def EvOk (P : Nat) (e : Ev) : Prop := (0 ≤ e.place ∧ e.place < P) ∧ 1 ≤ e.n
theorem addE_len (m : List Int) (e : Ev) : (addE m e).length = m.length := by unfold addE; simp
theorem addE_tot {m : List Int} {e : Ev} (h : EvOk m.length e) : tot (addE m e) = tot m + e.n := by
  unfold addE; rw [tot_set _ _ _ _ (getI_some h.1.1 h.1.2)]; omega
theorem addE_pos {m : List Int} {e : Ev} (hp : Pos m) (h : EvOk m.length e) : Pos (addE m e) := by
  have := hp.at_ (getI_some h.1.1 h.1.2)
  have h2 := h.2
  exact hp.set (by omega)
theorem foldE_len : ∀ (q : List Ev) (m : List Int), (q.foldl addE m).length = m.length
  | [], m => rfl
  | e :: q, m => by rw [List.foldl_cons, foldE_len, addE_len]
theorem foldE_tot : ∀ (q : List Ev) (m : List Int), (∀ e ∈ q, EvOk m.length e) → tot (q.foldl addE m) = tot m + totE q
  | [], m, _ => by simp [totE, tot]
  | e :: q, m, h => by
    rw [List.foldl_cons, foldE_tot q _ (fun x hx => by rw [addE_len]; exact h x (by simp [hx])), addE_tot (h e (by simp))]
    simp [totE, tot]; omega
theorem foldE_pos : ∀ (q : List Ev) (m : List Int), Pos m → (∀ e ∈ q, EvOk m.length e) → Pos (q.foldl addE m)
  | [], m, hp, _ => hp
  | e :: q, m, hp, h => by
    rw [List.foldl_cons]
    exact foldE_pos q _ (addE_pos hp (h e (by simp))) (fun x hx => by rw [addE_len]; exact h x (by simp [hx]))
theorem totE_pos {P : Nat} : ∀ (q : List Ev), (∀ e ∈ q, EvOk P e) → 0 ≤ totE q
  | [], _ => by simp [totE, tot]
  | e :: q, h => by
    have h1 := (h e (by simp)).2
    have h2 := totE_pos q (fun x hx => h x (by simp [hx]))
    have e1 : totE (e :: q) = e.n + totE q := rfl
    omega
theorem late_not (t : Int) (e : Ev) : late t e = !due t e := by
  unfold late due; by_cases h : e.time ≤ t
  · rw [decide_eq_true h, decide_eq_false (by omega)]; rfl
  · rw [decide_eq_false h, decide_eq_true (by omega)]; rfl
theorem totE_split (t : Int) : ∀ q : List Ev, totE (q.filter (due t)) + totE (q.filter (late t)) = totE q
  | [] => rfl
  | e :: q => by
    have ih := totE_split t q
    have e1 : ∀ r : List Ev, totE (e :: r) = e.n + totE r := fun _ => rfl
    rw [List.filter_cons, List.filter_cons, late_not]
    cases due t e
    · simp only [Bool.not_false, if_true, Bool.false_eq_true, if_false, e1]; omega
    · simp only [Bool.not_true, if_true, Bool.false_eq_true, if_false, e1]; omega

/-- what is asked of a net -/
structure NOk (n : Nt) : Prop where
  pl : n.places.length ≤ 32
  tr : n.trans.length ≤ 32
  tok : ∀ p ∈ n.places, 0 ≤ p.tok ∧ p.tok ≤ 1000000
  dly : ∀ t ∈ n.trans, 0 ≤ t.delay ∧ t.delay ≤ 1000000
  inn : ∀ t ∈ n.trans, ∀ a ∈ t.inn, (0 ≤ a.1 ∧ a.1 < n.places.length) ∧ 1 ≤ a.2 ∧ a.2 ≤ 1000000
  nt : ∀ t ∈ n.trans, ∀ a ∈ t.nt, (0 ≤ a.1 ∧ a.1 < n.places.length) ∧ 1 ≤ a.2 ∧ a.2 ≤ 1000000
  out : ∀ t ∈ n.trans, ∀ a ∈ t.out, (0 ≤ a.1 ∧ a.1 < n.places.length) ∧ 1 ≤ a.2 ∧ a.2 ≤ 1000000
  len : ∀ t ∈ n.trans, t.inn.length ≤ 8 ∧ t.nt.length ≤ 8 ∧ t.out.length ≤ 8
  dist : ∀ t ∈ n.trans, t.inn.Pairwise (fun a b => a.1 ≠ b.1)

theorem NOk.at_ {n : Nt} (h : NOk n) {i : Nat} {x : Tr} (hx : n.trans[i]? = some x) : x ∈ n.trans := List.mem_of_getElem? hx
theorem NOk.fits {n : Nt} (h : NOk n) {m : List Int} (hm : m.length = n.places.length) : FitsN m n := by
  intro t ht
  rw [hm]
  exact ⟨fun a ha => (h.inn t ht a ha).1, fun a ha => (h.nt t ht a ha).1⟩

theorem numB_iff {lo x : Int} (h : numB lo x = true) : lo ≤ x ∧ x ≤ 1000000 := by
  unfold numB at h
  simp at h
  exact h
theorem arcsErr_ok (P : Int) : ∀ (l pre : List (Int × Int)), arcsErr P pre l = 0 → (∀ a ∈ l, (0 ≤ a.1 ∧ a.1 < P) ∧ 1 ≤ a.2 ∧ a.2 ≤ 1000000) ∧ (∀ a ∈ l, ∀ b ∈ pre, b.1 ≠ a.1) ∧ l.Pairwise (fun a b => a.1 ≠ b.1)
  | [], pre, _ => ⟨fun a ha => (by cases ha), fun a ha => (by cases ha), List.Pairwise.nil⟩
  | a :: l, pre, h => by
    rw [arcsErr] at h
    cases e1 : numB 1 a.2 with
    | false => rw [e1, if_pos rfl] at h; omega
    | true =>
    cases e2 : inP P a.1 with
    | false => rw [e1, e2, if_neg (by simp), if_pos rfl] at h; omega
    | true =>
    cases e3 : hasP pre a.1 with
    | true => rw [e1, e2, e3, if_neg (by simp), if_neg (by simp), if_pos rfl] at h; omega
    | false =>
      rw [e1, e2, e3, if_neg (by simp), if_neg (by simp), if_neg (by simp)] at h
      obtain ⟨h1, h2, h3⟩ := arcsErr_ok P l _ h
      have n1 := numB_iff e1
      unfold inP at e2
      simp at e2
      unfold hasP at e3
      rw [List.any_eq_false] at e3
      refine ⟨fun x hx => ?_, fun x hx b hb => ?_, List.pairwise_cons.2 ⟨fun x hx => h2 x hx a (by simp), h3⟩⟩
      · rcases List.mem_cons.1 hx with rfl | hx
        · exact ⟨e2, n1⟩
        · exact h1 x hx
      · rcases List.mem_cons.1 hx with rfl | hx
        · have := e3 b hb; simpa using this
        · exact h2 x hx b (by simp [hb])
theorem transErr_ok {P : Int} : ∀ (ts : List Tr), transErr P ts = 0 → ∀ t ∈ ts, numB 0 t.delay = true ∧ numB 0 t.prio = true ∧ arcsErr P [] t.inn = 0 ∧ arcsErr P [] t.nt = 0 ∧ arcsErr P [] t.out = 0
  | [], _, t, ht => by simp at ht
  | u :: ts, h, t, ht => by
    rw [transErr] at h
    cases e1 : (numB 0 u.delay && numB 0 u.prio) with
    | false => rw [e1, if_pos rfl] at h; omega
    | true =>
      rw [e1, if_neg (by simp)] at h
      by_cases e2 : listsErr P u.lists = 0
      · rw [if_pos e2] at h
        rcases List.mem_cons.1 ht with rfl | ht
        · simp only [Bool.and_eq_true] at e1
          refine ⟨e1.1, e1.2, ?_⟩
          simp only [Tr.lists, listsErr] at e2
          by_cases a1 : arcsErr P [] t.inn = 0
          · rw [if_pos a1] at e2
            by_cases a2 : arcsErr P [] t.nt = 0
            · rw [if_pos a2] at e2
              by_cases a3 : arcsErr P [] t.out = 0
              · exact ⟨a1, a2, a3⟩
              · rw [if_neg a3] at e2; exact absurd e2 a3
            · rw [if_neg a2] at e2; exact absurd e2 a2
          · rw [if_neg a1] at e2; exact absurd e2 a1
        · exact transErr_ok ts h t ht
      · rw [if_neg e2] at h; exact absurd h e2
theorem checkN_nok {n : Nt} (h : checkN n = 0) : NOk n := by
  unfold checkN at h
  cases e1 : tooLongB n with
  | true => rw [e1, if_pos rfl] at h; omega
  | false =>
  cases e2 : namesBad [] n.names with
  | true => rw [e1, e2, if_neg (by simp), if_pos rfl] at h; omega
  | false =>
  cases e3 : placesBad n.places with
  | true => rw [e1, e2, e3, if_neg (by simp), if_neg (by simp), if_pos rfl] at h; omega
  | false =>
    rw [e1, e2, e3, if_neg (by simp), if_neg (by simp), if_neg (by simp)] at h
    simp only [tooLongB, Bool.or_eq_false_iff, decide_eq_false_iff_not, List.any_eq_false] at e1
    simp only [placesBad, List.any_eq_false, Bool.not_eq_true, Bool.not_eq_false'] at e3
    have hT := transErr_ok _ h
    refine ⟨by omega, by omega, fun p hp => numB_iff (e3 p hp), fun t ht => numB_iff (hT t ht).1, fun t ht => ?_, fun t ht => ?_, fun t ht => ?_, fun t ht => ?_, fun t ht => ?_⟩
    · exact (arcsErr_ok _ _ _ (hT t ht).2.2.1).1
    · exact (arcsErr_ok _ _ _ (hT t ht).2.2.2.1).1
    · exact (arcsErr_ok _ _ _ (hT t ht).2.2.2.2).1
    · have := e1.2.2 t ht
      unfold longT at this
      simp [Tr.most] at this
      omega
    · exact (arcsErr_ok _ _ _ (hT t ht).2.2.1).2.2

/-- what stays true all along -/
structure Inv (n : Nt) (t : Int) (s : St) : Prop where
  len : s.m.length = n.places.length
  pos : Pos s.m
  evs : ∀ e ∈ s.q, EvOk n.places.length e
  sum : tot s.m + totE s.q ≤ 32000000 + 8000000 * (s.log.length : Int)
  ql : s.q.length ≤ 8 * s.log.length
  ll : s.log.length ≤ 2000
  tb : 0 ≤ t ∧ t ≤ 1000000 * (s.log.length : Int)
  et : ∀ e ∈ s.q, 0 ≤ e.time ∧ e.time ≤ 1000000 * (s.log.length : Int)

/-- what is under way comes later -/
def After (t : Int) (s : St) : Prop := ∀ e ∈ s.q, t < e.time

theorem arrive_inv {n : Nt} {t : Int} {s : St} (h : Inv n t s) : Inv n t (arrive t s) ∧ After t (arrive t s) := by
  have hd : ∀ e ∈ s.q.filter (due t), EvOk s.m.length e := fun e he => by rw [h.len]; exact h.evs e (List.mem_filter.1 he).1
  refine ⟨⟨?_, foldE_pos _ _ h.pos hd, fun e he => h.evs e (List.mem_filter.1 he).1, ?_, ?_, h.ll, h.tb, fun e he => h.et e (List.mem_filter.1 he).1⟩, fun e he => ?_⟩
  · show ((s.q.filter (due t)).foldl addE s.m).length = _
    rw [foldE_len]; exact h.len
  · show tot ((s.q.filter (due t)).foldl addE s.m) + totE (s.q.filter (late t)) ≤ 32000000 + 8000000 * (s.log.length : Int)
    rw [foldE_tot _ _ hd]
    have h1 := totE_split t s.q
    have h2 := h.sum
    omega
  · have h1 : (s.q.filter (late t)).length ≤ s.q.length := List.length_filter_le _ _
    have h2 := h.ql
    show (s.q.filter (late t)).length ≤ 8 * s.log.length
    omega
  · have := (List.mem_filter.1 he).2
    unfold late at this
    simpa using this

/-- while tokens arrive: the next one fits -/
theorem arrive_next {n : Nt} {t : Int} {s : St} (h : Inv n t s) {k : Nat} {e : Ev} (hk : s.q[k]? = some e) (hd : due t e = true) :
    ∃ p : Nat, e.place = p ∧ p < s.m.length ∧ ∃ z, (arrM t (s.q.take k) s.m)[p]? = some z ∧ 0 ≤ z ∧ z + e.n ≤ 1099511627776 ∧ arrM t (s.q.take (k + 1)) s.m = (arrM t (s.q.take k) s.m).set p (z + e.n) ∧ 1 ≤ e.n := by
  have hok := h.evs e (List.mem_of_getElem? hk)
  have hd1 : ∀ x ∈ (s.q.take k).filter (due t), EvOk s.m.length x := fun x hx => by rw [h.len]; exact h.evs x (List.mem_of_mem_take (List.mem_filter.1 hx).1)
  have hl : (arrM t (s.q.take k) s.m).length = s.m.length := foldE_len _ _
  have hp1 : e.place.toNat < s.m.length := by rw [h.len]; have := hok.1; omega
  have hz := getI_some (m := arrM t (s.q.take k) s.m) (x := e.place) hok.1.1 (by rw [hl, h.len]; exact hok.1.2)
  have hpos : Pos (arrM t (s.q.take k) s.m) := foldE_pos _ _ h.pos hd1
  refine ⟨e.place.toNat, by have := hok.1; omega, hp1, _, hz, hpos.at_ hz, ?_, ?_, hok.2⟩
  · have h1 := le_tot _ _ _ hpos hz
    have h2 : tot (arrM t (s.q.take k) s.m) = tot s.m + totE ((s.q.take k).filter (due t)) := foldE_tot _ _ hd1
    have h3 := totE_split t (s.q.take k)
    have h4 : 0 ≤ totE ((s.q.take k).filter (late t)) := totE_pos _ (fun x hx => h.evs x (List.mem_of_mem_take (List.mem_filter.1 hx).1))
    have h5 : totE s.q = totE (s.q.take k) + (e.n + totE (s.q.drop (k + 1))) := by
      conv => lhs; rw [(List.take_append_drop k s.q).symm, drop_at hk, totE_append]
      rfl
    have h6 : 0 ≤ totE (s.q.drop (k + 1)) := totE_pos _ (fun x hx => h.evs x (List.mem_of_mem_drop hx))
    have h7 := h.sum
    have h8 := h.ll
    omega
  · unfold arrM
    rw [take_at hk, List.filter_append, List.filter_cons, hd]
    simp only [if_true, List.filter_nil, List.foldl_append, List.foldl_cons, List.foldl_nil]
    rfl
theorem arrive_skip {t : Int} {q : List Ev} {m : List Int} {k : Nat} {e : Ev} (hk : q[k]? = some e) (hd : due t e = false) : arrM t (q.take (k + 1)) m = arrM t (q.take k) m := by
  unfold arrM
  rw [take_at hk, List.filter_append, List.filter_cons, hd]
  simp
theorem late_next {t : Int} {q : List Ev} {k : Nat} {e : Ev} (hk : q[k]? = some e) (hd : late t e = true) : (q.take (k + 1)).filter (late t) = (q.take k).filter (late t) ++ [e] := by
  rw [take_at hk, List.filter_append, List.filter_cons, hd]; simp
theorem late_skip {t : Int} {q : List Ev} {k : Nat} {e : Ev} (hk : q[k]? = some e) (hd : late t e = false) : (q.take (k + 1)).filter (late t) = (q.take k).filter (late t) := by
  rw [take_at hk, List.filter_append, List.filter_cons, hd]; simp
theorem late_len (t : Int) (q : List Ev) (k : Nat) : ((q.take k).filter (late t)).length ≤ k := by
  have h1 := List.length_filter_le (late t) (q.take k)
  have h2 := List.length_take_le k q
  omega

/-- what may fire is there to be taken -/
theorem bestTo_may (m : List Int) (ts : List Tr) : ∀ k, 0 ≤ bestTo m ts k → ∃ x, ts[(bestTo m ts k).toNat]? = some x ∧ mayB m x.inn x.nt = true := by
  intro k
  induction k with
  | zero => intro h; simp [bestTo] at h
  | succ k ih =>
    intro h
    unfold bestTo stepB at h ⊢
    cases hx : ts[k]? with
    | none => rw [hx] at h; simp only at h ⊢; exact ih h
    | some x =>
      rw [hx] at h
      simp only at h ⊢
      cases hm : mayB m x.inn x.nt with
      | false => rw [hm] at h; simp only [Bool.false_eq_true, if_false] at h ⊢; exact ih h
      | true =>
        rw [hm] at h
        simp only [if_true] at h ⊢
        by_cases h1 : bestTo m ts k < 0
        · rw [if_pos h1]; exact ⟨x, by simpa using hx, hm⟩
        · rw [if_neg h1] at h ⊢
          by_cases h2 : x.prio < (ts.getD (bestTo m ts k).toNat x).prio
          · rw [if_pos h2]; exact ⟨x, by simpa using hx, hm⟩
          · rw [if_neg h2] at h ⊢; exact ih (by omega)
theorem may_in {m : List Int} {li ln : List (Int × Int)} (h : mayB m li ln = true) : ∀ a ∈ li, a.2 ≤ getI m a.1 := by
  unfold mayB at h
  rw [Bool.and_eq_true, Bool.not_eq_true', List.any_eq_false] at h
  intro a ha
  have := h.1 a ha
  unfold shortA at this
  simpa using this

theorem take_ok : ∀ (l : List (Int × Int)) (m : List Int), Pos m → tot m ≤ 9000000000000000000 → (∀ a ∈ l, (0 ≤ a.1 ∧ a.1 < m.length) ∧ 1 ≤ a.2) → (∀ a ∈ l, a.2 ≤ getI m a.1) → l.Pairwise (fun a b => a.1 ≠ b.1) →
    (takeL l m).length = m.length ∧ Pos (takeL l m) ∧ tot (takeL l m) ≤ tot m
  | [], m, hp, _, _, _, _ => ⟨rfl, hp, Int.le_refl _⟩
  | a :: l, m, hp, hb, hr, hg, hd => by
    have r := hr a (by simp)
    have g := hg a (by simp)
    have hz := getI_some r.1.1 r.1.2
    have hle := le_tot _ _ _ hp hz
    have e : stepT m a = m.set a.1.toNat (getI m a.1 - a.2) := by
      unfold stepT; rw [IntWalk.wrap64_in _ (by have := r.2; omega)]
    have hl : (stepT m a).length = m.length := by unfold stepT; simp
    have ht : tot (stepT m a) = tot m - a.2 := by rw [e, tot_set _ _ _ _ hz]; omega
    have hp2 : Pos (stepT m a) := by rw [e]; exact hp.set (by omega)
    rw [List.pairwise_cons] at hd
    have := take_ok l (stepT m a) hp2 (by have := r.2; omega) (fun b hb => by rw [hl]; exact hr b (by simp [hb])) (fun b hb => by
      have h1 := hd.1 b hb
      have r2 := (hr b (by simp [hb])).1
      have : getI (stepT m a) b.1 = getI m b.1 := by
        rw [e]; unfold getI
        simp only [List.getD_eq_getElem?_getD]
        rw [List.getElem?_set_ne (by omega)]
      rw [this]; exact hg b (by simp [hb])) hd.2
    obtain ⟨a1, a2, a3⟩ := this
    refine ⟨by rw [← hl]; exact a1, a2, ?_⟩
    have := r.2
    show tot (takeL l (stepT m a)) ≤ tot m
    omega

theorem outs_mem {t d : Int} {l : List (Int × Int)} {e : Ev} (h : e ∈ outs t d l) : ∃ a ∈ l, e = ⟨t + d, a.1, a.2⟩ := by
  unfold outs at h
  obtain ⟨a, ha, rfl⟩ := List.mem_map.1 h
  exact ⟨a, ha, rfl⟩
theorem outs_tot (t d : Int) : ∀ (l : List (Int × Int)), (∀ a ∈ l, a.2 ≤ 1000000) → totE (outs t d l) ≤ 1000000 * (l.length : Int)
  | [], _ => by simp [outs, totE, tot]
  | a :: l, h => by
    have ih := outs_tot t d l (fun b hb => h b (by simp [hb]))
    have h1 := h a (by simp)
    have e : totE (outs t d (a :: l)) = a.2 + totE (outs t d l) := rfl
    rw [e, List.length_cons]; omega

/-- a transition that may fire has fired: all stays as it must -/
theorem fired_inv {n : Nt} (hn : NOk n) {t : Int} {s : St} (h : Inv n t s) {i : Nat} {x : Tr} (hx : n.trans[i]? = some x) (hm : mayB s.m x.inn x.nt = true) (hl : s.log.length < 2000) : Inv n t (fired t i x s) := by
  have hxm := hn.at_ hx
  have hs := h.sum
  have htE : 0 ≤ totE s.q := totE_pos _ h.evs
  obtain ⟨t1, t2, t3⟩ := take_ok x.inn s.m h.pos (by omega) (fun a ha => by rw [h.len]; exact ⟨(hn.inn x hxm a ha).1, (hn.inn x hxm a ha).2.1⟩) (may_in hm) (hn.dist x hxm)
  have hll : (s.log ++ [(t, (i : Int))]).length = s.log.length + 1 := by simp
  have ho := outs_tot t x.delay x.out (fun a ha => (hn.out x hxm a ha).2.2)
  have hol := (hn.len x hxm).2.2
  have hdl := hn.dly x hxm
  have htb := h.tb
  refine ⟨t1.trans h.len, t2, fun e he => ?_, ?_, ?_, ?_, ?_, fun e he => ?_⟩
  · rcases List.mem_append.1 he with he | he
    · exact h.evs e he
    · obtain ⟨a, ha, rfl⟩ := outs_mem he
      exact ⟨(hn.out x hxm a ha).1, (hn.out x hxm a ha).2.1⟩
  · show tot (takeL x.inn s.m) + totE (s.q ++ outs t x.delay x.out) ≤ 32000000 + 8000000 * (((s.log ++ [(t, (i : Int))]).length : Nat) : Int)
    rw [totE_append, hll]
    omega
  · show (s.q ++ outs t x.delay x.out).length ≤ 8 * (s.log ++ [(t, (i : Int))]).length
    rw [List.length_append, hll]
    have := h.ql
    have e : (outs t x.delay x.out).length = x.out.length := by unfold outs; simp
    omega
  · show (s.log ++ [(t, (i : Int))]).length ≤ 2000
    omega
  · show 0 ≤ t ∧ t ≤ 1000000 * (((s.log ++ [(t, (i : Int))]).length : Nat) : Int)
    omega
  · show 0 ≤ e.time ∧ e.time ≤ 1000000 * (((s.log ++ [(t, (i : Int))]).length : Nat) : Int)
    rcases List.mem_append.1 he with he | he
    · have := h.et e he; omega
    · obtain ⟨a, ha, rfl⟩ := outs_mem he
      simp only
      omega

theorem start_inv {n : Nt} (hn : NOk n) : Inv n 0 (start n) := by
  refine ⟨by simp [start], fun z hz => ?_, (fun e he => by cases he), ?_, Nat.zero_le _, Nat.zero_le _, by simp [start], fun e he => by cases he⟩
  · obtain ⟨p, hp, rfl⟩ := List.mem_map.1 hz
    exact (hn.tok p hp).1
  · have : ∀ l : List Pl, (∀ p ∈ l, p.tok ≤ 1000000) → tot (l.map (·.tok)) ≤ 1000000 * (l.length : Int) := by
      intro l
      induction l with
      | nil => intro _; simp [tot]
      | cons p l ih =>
        intro h
        have h1 := ih (fun q hq => h q (by simp [hq]))
        have h2 := h p (by simp)
        rw [List.map_cons, tot, List.length_cons]; omega
    have h1 := this n.places (fun p hp => (hn.tok p hp).2)
    have h2 := hn.pl
    show tot (n.places.map (·.tok)) + 0 ≤ 32000000 + 8000000 * ((0 : Nat) : Int)
    omega

/-- the next time -/
theorem nextT_go : ∀ (q : List Ev) (z : Int), (∀ e ∈ q, 0 ≤ e.time) → -1 ≤ z →
    (q.foldl (fun z e => if z < 0 ∨ e.time < z then e.time else z) z = z ∧ (∀ e ∈ q, ¬ (z < 0 ∨ e.time < z)) ∨
      (∃ e ∈ q, q.foldl (fun z e => if z < 0 ∨ e.time < z then e.time else z) z = e.time) ∧ (∀ e ∈ q, q.foldl (fun z e => if z < 0 ∨ e.time < z then e.time else z) z ≤ e.time) ∧ (0 ≤ z → q.foldl (fun z e => if z < 0 ∨ e.time < z then e.time else z) z ≤ z))
  | [], z, _, _ => .inl ⟨rfl, fun e he => by cases he⟩
  | e :: q, z, h, hz => by
    rw [List.foldl_cons]
    have h0 := h e (by simp)
    have ih := nextT_go q (if z < 0 ∨ e.time < z then e.time else z) (fun x hx => h x (by simp [hx])) (by split <;> omega)
    by_cases hc : z < 0 ∨ e.time < z
    · rw [if_pos hc] at ih ⊢
      refine .inr ?_
      rcases ih with ⟨e1, e2⟩ | ⟨⟨x, hx, e1⟩, e2, e3⟩
      · rw [e1]
        refine ⟨⟨e, by simp, rfl⟩, fun x hx => ?_, fun h1 => by omega⟩
        rcases List.mem_cons.1 hx with rfl | hx
        · omega
        · have := e2 x hx; omega
      · refine ⟨⟨x, by simp [hx], e1⟩, fun y hy => ?_, fun h1 => ?_⟩
        · rcases List.mem_cons.1 hy with rfl | hy
          · exact e3 h0
          · exact e2 y hy
        · have := e3 h0; omega
    · rw [if_neg hc] at ih ⊢
      rcases ih with ⟨e1, e2⟩ | ⟨⟨x, hx, e1⟩, e2, e3⟩
      · refine .inl ⟨e1, fun x hx => ?_⟩
        rcases List.mem_cons.1 hx with rfl | hx
        · exact hc
        · exact e2 x hx
      · refine .inr ⟨⟨x, by simp [hx], e1⟩, fun y hy => ?_, e3⟩
        rcases List.mem_cons.1 hy with rfl | hy
        · have := e3 (by omega); omega
        · exact e2 y hy
theorem nextT_cases (q : List Ev) (h : ∀ e ∈ q, 0 ≤ e.time) : (nextT q = -1 ∧ q = []) ∨ ((∃ e ∈ q, nextT q = e.time) ∧ ∀ e ∈ q, nextT q ≤ e.time) := by
  rcases nextT_go q (-1) h (Int.le_refl _) with ⟨h1, h2⟩ | ⟨h1, h2, _⟩
  · refine .inl ⟨h1, ?_⟩
    cases q with
    | nil => rfl
    | cons e q => exact absurd (.inl (by omega)) (h2 e (by simp))
  · exact .inr ⟨h1, h2⟩
theorem nextT_take {q : List Ev} {k : Nat} {e : Ev} (h : q[k]? = some e) : nextT (q.take (k + 1)) = if nextT (q.take k) < 0 ∨ e.time < nextT (q.take k) then e.time else nextT (q.take k) := by
  unfold nextT; rw [take_at h, List.foldl_append]; rfl
theorem next_inv {n : Nt} {t : Int} {s : St} (h : Inv n t s) (ha : After t s) (h0 : 0 ≤ nextT s.q) : t < nextT s.q ∧ Inv n (nextT s.q) s ∧ ∀ e ∈ s.q, nextT s.q ≤ e.time := by
  rcases nextT_cases s.q (fun e he => (h.et e he).1) with ⟨e1, _⟩ | ⟨⟨e, he, e1⟩, e2⟩
  · omega
  · refine ⟨by rw [e1]; exact ha e he, ⟨h.len, h.pos, h.evs, h.sum, h.ql, h.ll, ?_, h.et⟩, e2⟩
    rw [e1]; exact h.et e he
theorem bestTo_neg (m : List Int) (ts : List Tr) (k : Nat) (h : bestTo m ts k < 0) : bestTo m ts k = -1 := by have := bestTo_bd m ts k; omega
end Go.Proofs.Ytpbbdnicafifpaa
