/-
  What is there, and under way, is what was there, less what was taken, and what was given: place by place, along a run.
  Conditions: none beyond each theorem's own.
-/
import Derived.Test.YtpbbdnicafifpaaRunQ
namespace Go.Proofs.Ytpbbdnicafifpaa
open Go.RowKit
set_option linter.unusedVariables false

/-- how much of a list goes to a place -/
def arcAt (l : List (Int × Int)) (p : Nat) : Int := match l with | [] => 0 | a :: r => (if a.1 = (p : Int) then a.2 else 0) + arcAt r p
def wayAt (q : List Ev) (p : Nat) : Int := match q with | [] => 0 | e :: r => (if e.place = (p : Int) then e.n else 0) + wayAt r p
/-- what a place should have behind so many firings -/
def wantAt (n : Nt) (l : List (Int × Int)) (p : Nat) : Int := match l with | [] => getI (n.places.map (·.tok)) p | x :: r => wantAt n r p + (arcAt (n.trans.getD x.2.toNat Tr.none).out p - arcAt (n.trans.getD x.2.toNat Tr.none).inn p)

theorem arcAt_append (a b : List (Int × Int)) (p : Nat) : arcAt (a ++ b) p = arcAt a p + arcAt b p := by
  induction a with
  | nil => simp [arcAt]
  | cons x a ih => rw [List.cons_append, arcAt, arcAt, ih]; omega
theorem wayAt_append (a b : List Ev) (p : Nat) : wayAt (a ++ b) p = wayAt a p + wayAt b p := by
  induction a with
  | nil => simp [wayAt]
  | cons x a ih => rw [List.cons_append, wayAt, wayAt, ih]; omega
theorem wantAt_append (n : Nt) (a : List (Int × Int)) (x : Int × Int) (p : Nat) : wantAt n (a ++ [x]) p = wantAt n a p + (arcAt (n.trans.getD x.2.toNat Tr.none).out p - arcAt (n.trans.getD x.2.toNat Tr.none).inn p) := by
  induction a with
  | nil => simp [wantAt]
  | cons y a ih => rw [List.cons_append, wantAt, wantAt, ih]; omega
theorem wayAt_split (t : Int) (p : Nat) : ∀ q : List Ev, wayAt (q.filter (due t)) p + wayAt (q.filter (late t)) p = wayAt q p
  | [] => rfl
  | e :: q => by
    have ih := wayAt_split t p q
    rw [List.filter_cons, List.filter_cons, late_not]
    cases due t e
    · simp only [Bool.not_false, if_true, Bool.false_eq_true, if_false, wayAt]; omega
    · simp only [Bool.not_true, if_true, Bool.false_eq_true, if_false, wayAt]; omega
theorem wayAt_outs (t d : Int) (p : Nat) : ∀ l : List (Int × Int), wayAt (outs t d l) p = arcAt l p
  | [] => rfl
  | a :: l => by
    have ih := wayAt_outs t d p l
    show (if a.1 = (p : Int) then a.2 else 0) + wayAt (outs t d l) p = _
    rw [ih]; rfl
theorem getI_set {m : List Int} {k p : Nat} {y : Int} (hk : k < m.length) : getI (m.set k y) (p : Int) = if k = p then y else getI m p := by
  unfold getI
  rw [Int.toNat_natCast, List.getD_eq_getElem?_getD, List.getD_eq_getElem?_getD]
  by_cases h : k = p
  · subst h; rw [List.getElem?_set_self hk, if_pos rfl]; rfl
  · rw [List.getElem?_set_ne h, if_neg h]
theorem foldE_at (p : Nat) : ∀ (q : List Ev) (m : List Int), (∀ e ∈ q, EvOk m.length e) → getI (q.foldl addE m) p = getI m p + wayAt q p
  | [], m, _ => by simp [wayAt]
  | e :: q, m, h => by
    have he := h e (by simp)
    rw [List.foldl_cons, foldE_at p q _ (fun x hx => by rw [addE_len]; exact h x (by simp [hx]))]
    have hk : e.place.toNat < m.length := by have := he.1; omega
    have hcast : ((e.place.toNat : Nat) : Int) = e.place := Int.toNat_of_nonneg he.1.1
    unfold addE
    rw [getI_set hk, wayAt]
    by_cases hp : e.place.toNat = p
    · subst hp
      rw [if_pos rfl, hcast, if_pos rfl]; omega
    · rw [if_neg hp, if_neg (by intro h2; apply hp; omega)]; omega
theorem take_at9 (p : Nat) : ∀ (l : List (Int × Int)) (m : List Int), Pos m → tot m ≤ 9000000000000000000 → (∀ a ∈ l, (0 ≤ a.1 ∧ a.1 < m.length) ∧ 1 ≤ a.2) → (∀ a ∈ l, a.2 ≤ getI m a.1) → l.Pairwise (fun a b => a.1 ≠ b.1) →
    getI (takeL l m) p = getI m p - arcAt l p
  | [], m, hp, _, _, _, _ => by simp [takeL, arcAt]
  | a :: l, m, hp, hb, hr, hg, hd => by
    have r := hr a (by simp)
    have g := hg a (by simp)
    have hz := getI_some r.1.1 r.1.2
    have hle := le_tot _ _ _ hp hz
    have e : stepT m a = m.set a.1.toNat (getI m a.1 - a.2) := by
      unfold stepT; rw [IntWalk.wrap64_in _ (by have := r.2; omega)]
    have hl : (stepT m a).length = m.length := by unfold stepT; simp
    have ht : tot (stepT m a) = tot m - a.2 := by rw [e, tot_set _ _ _ _ hz]; omega
    have hp2 : Pos (stepT m a) := by rw [e]; exact hp.set (by omega)
    have hk : a.1.toNat < m.length := by have := r.1; omega
    have hcast : ((a.1.toNat : Nat) : Int) = a.1 := Int.toNat_of_nonneg r.1.1
    rw [List.pairwise_cons] at hd
    have ih := take_at9 p l (stepT m a) hp2 (by have := r.2; omega) (fun b hb => by rw [hl]; exact hr b (by simp [hb])) (fun b hb => by
      have h1 := hd.1 b hb
      have r2 := (hr b (by simp [hb])).1
      have hc2 : ((b.1.toNat : Nat) : Int) = b.1 := Int.toNat_of_nonneg r2.1
      rw [e, ← hc2, getI_set hk, if_neg (by omega), hc2]
      exact hg b (by simp [hb])) hd.2
    show getI (takeL l (stepT m a)) p = _
    rw [ih, e, getI_set hk, arcAt]
    by_cases hpp : a.1.toNat = p
    · subst hpp
      rw [if_pos rfl, hcast, if_pos rfl]; omega
    · rw [if_neg hpp, if_neg (by intro h2; apply hpp; omega)]; omega

/-- all is there, place by place -/
def Sums (n : Nt) (s : St) : Prop := (∀ p, p < n.places.length → getI s.m p + wayAt s.q p = wantAt n s.log p) ∧ ∀ i, i ≤ s.log.length → ∀ p, p < n.places.length → 0 ≤ wantAt n (s.log.take i) p ∧ wantAt n (s.log.take i) p ≤ 32000000 + 8000000 * (i : Int)
theorem wayAt_pos {P : Nat} (p : Nat) : ∀ q : List Ev, (∀ e ∈ q, EvOk P e) → 0 ≤ wayAt q p
  | [], _ => Int.le_refl _
  | e :: q, h => by
    have h1 := (h e (by simp)).2
    have h2 := wayAt_pos p q (fun x hx => h x (by simp [hx]))
    rw [wayAt]; split <;> omega
theorem wayAt_le {P : Nat} (p : Nat) : ∀ q : List Ev, (∀ e ∈ q, EvOk P e) → wayAt q p ≤ totE q
  | [], _ => Int.le_refl _
  | e :: q, h => by
    have h1 := (h e (by simp)).2
    have h2 := wayAt_le p q (fun x hx => h x (by simp [hx]))
    have e1 : totE (e :: q) = e.n + totE q := rfl
    rw [wayAt]; split <;> omega
theorem sums_arrive {n : Nt} {t : Int} {s : St} (hI : Inv n t s) (h : Sums n s) : Sums n (arrive t s) := by
  refine ⟨fun p hp => ?_, h.2⟩
  have h1 := h.1 p hp
  have h2 := foldE_at p (s.q.filter (due t)) s.m (fun e he => by rw [hI.len]; exact hI.evs e (List.mem_filter.1 he).1)
  have h3 := wayAt_split t p s.q
  show getI ((s.q.filter (due t)).foldl addE s.m) p + wayAt (s.q.filter (late t)) p = wantAt n s.log p
  rw [h2]; omega
theorem sums_fired {n : Nt} (hn : NOk n) {t : Int} {s : St} (hI : Inv n t s) (h : Sums n s) {i : Nat} {x : Tr} (hx : n.trans[i]? = some x) (hm : mayB s.m x.inn x.nt = true) (hl : s.log.length < 2000) : Sums n (fired t i x s) := by
  have hF := fired_inv hn hI (i := i) hx hm hl
  have hxm := hn.at_ hx
  have hs := hI.sum
  have htE : 0 ≤ totE s.q := totE_pos _ hI.evs
  have key : ∀ p, p < n.places.length → getI (takeL x.inn s.m) p + wayAt (s.q ++ outs t x.delay x.out) p = wantAt n (s.log ++ [(t, (i : Int))]) p := by
    intro p hp
    have h1 := h.1 p hp
    have h2 := take_at9 p x.inn s.m hI.pos (by have := hI.ll; omega) (fun a ha => by rw [hI.len]; exact ⟨(hn.inn x hxm a ha).1, (hn.inn x hxm a ha).2.1⟩) (may_in hm) (hn.dist x hxm)
    rw [h2, wayAt_append, wayAt_outs, wantAt_append]
    have e : n.trans.getD ((t, (i : Int)).2).toNat Tr.none = x := by simp [List.getD, hx]
    rw [e]; omega
  refine ⟨key, fun j hj p hp => ?_⟩
  have hlen : (s.log ++ [(t, (i : Int))]).length = s.log.length + 1 := by simp
  by_cases hjl : j ≤ s.log.length
  · have e : (fired t i x s).log.take j = s.log.take j := List.take_append_of_le_length hjl
    rw [e]; exact h.2 j hjl p hp
  · have hj' : j = s.log.length + 1 := by
      have : j ≤ (s.log ++ [(t, (i : Int))]).length := hj
      omega
    have e : (fired t i x s).log.take j = s.log ++ [(t, (i : Int))] := List.take_of_length_le (by show (s.log ++ [(t, (i : Int))]).length ≤ j; omega)
    rw [e, ← key p hp]
    have hz := getI_some (m := takeL x.inn s.m) (x := (p : Int)) (by omega) (by have := hF.len; show (p : Int) < ((takeL x.inn s.m).length : Int); have h9 : (takeL x.inn s.m).length = n.places.length := this; omega)
    have h0 := hF.pos.at_ hz
    have h1 := le_tot _ _ _ hF.pos hz
    have h2 := wayAt_pos p _ hF.evs
    have h3 := wayAt_le p _ hF.evs
    have h4 := hF.sum
    have h5 : ((fired t i x s).log.length : Int) = (s.log.length : Int) + 1 := by show (((s.log ++ [(t, (i : Int))]).length : Nat) : Int) = _; rw [hlen]; omega
    rw [h5] at h4
    have e6 : (fired t i x s).m = takeL x.inn s.m := rfl
    have e7 : (fired t i x s).q = s.q ++ outs t x.delay x.out := rfl
    rw [e6, e7] at h4
    rw [e7] at h2 h3
    have e8 : getI (takeL x.inn s.m) (p : Int) ≤ tot (takeL x.inn s.m) := h1
    subst hj'
    constructor
    · have : 0 ≤ getI (takeL x.inn s.m) (p : Int) := h0
      omega
    · omega
theorem inst_sums {n : Nt} (hn : NOk n) {t : Int} : ∀ (k : Nat) (c : List Int) (s : St), Inv n t s → Sums n s → Sums n (inst n.trans t k c s).1
  | 0, c, s, hI, hS => hS
  | k + 1, c, s, hI, hS => by
    by_cases hb : bestTo s.m n.trans n.trans.length < 0
    · rw [inst_stop hb]; exact hS
    · obtain ⟨b, hbe⟩ : ∃ b : Nat, bestTo s.m n.trans n.trans.length = b := ⟨(bestTo s.m n.trans n.trans.length).toNat, by omega⟩
      obtain ⟨x, hx, hm⟩ := bestTo_may s.m n.trans n.trans.length (by omega)
      rw [hbe, Int.toNat_natCast] at hx
      by_cases hr : refuseN s (getI c b) = 0
      · obtain ⟨e, _, hl⟩ := inst_go (t := t) (k := k) hbe hx hr
        rw [e]
        have hF := fired_inv hn hI (i := b) hx hm hl
        exact inst_sums hn k _ _ (arrive_inv hF).1 (sums_arrive hF (sums_fired hn hI hS hx hm hl))
      · rw [inst_ref hbe hr]; exact hS
theorem times_sums {n : Nt} (hn : NOk n) (h : Int) : ∀ (k : Nat) (t : Int) (s : St), Inv n t s → Sums n s → Sums n (times n.trans h k t s).1
  | 0, t, s, hI, hS => hS
  | k + 1, t, s, hI, hS => by
    obtain ⟨i1, i2, _⟩ := instAll_inv hn hI
    have hA := inst_sums hn 2001 (List.replicate n.trans.length 0) _ (arrive_inv hI).1 (sums_arrive hI hS)
    by_cases hr : (instAll n.trans t s).2 = 0
    · rw [times_go hr]
      split
      · rename_i hc
        exact times_sums hn h k _ _ (next_inv i1 i2 hc.1).2.1 hA
      · exact hA
    · rw [times_err hr]; exact hA
theorem start_sums {n : Nt} (hn : NOk n) : Sums n (start n) := by
  refine ⟨fun p hp => by simp [start, wayAt, wantAt], fun i hi p hp => ?_⟩
  have e : (start n).log.take i = [] := by simp [start]
  rw [e]
  have hz := getI_some (m := n.places.map (·.tok)) (x := (p : Int)) (by omega) (by simp; omega)
  obtain ⟨pl, hpl, hpe⟩ := List.mem_map.1 (List.mem_of_getElem? hz)
  have := hn.tok pl hpl
  show 0 ≤ getI (n.places.map (·.tok)) p ∧ getI (n.places.map (·.tok)) p ≤ _
  omega
/-- along any run -/
theorem runN_sums {n : Nt} (hn : NOk n) (h : Int) : Sums n (runN n h).1 := by
  unfold runN
  split
  · exact times_sums hn h _ _ _ (start_inv hn) (start_sums hn)
  · exact start_sums hn
theorem wayL_at (P : Nat) (q : List Ev) (hq : ∀ e ∈ q, EvOk P e) (p : Nat) (hp : p < P) : getI (wayL P q) p = wayAt q p := by
  unfold wayL
  rw [foldE_at p q _ (fun e he => by rw [List.length_replicate]; exact hq e he)]
  have : getI (List.replicate P (0 : Int)) (p : Int) = 0 := by
    unfold getI
    rw [Int.toNat_natCast, List.getD_eq_getElem?_getD, List.getElem?_replicate]
    split <;> rfl
  omega
end Go.Proofs.Ytpbbdnicafifpaa
